"""A grammar of sources, written down from point 5 by itself, and which words it lets follow one another."""

# Small letters and signs are words, the others are parts. NAME is a name that is read, set or declared, UN one that is
# a message: there, super is a name like others.
RULES = {
    "SOURCE": [["NAME", "VARIABLES", "STATEMENTS"]],
    "VARIABLES": [[], ["|", "NAMES", "|"]],
    "NAMES": [["NAME"], ["NAME", "NAMES"]],
    "STATEMENTS": [[], ["SOME"], ["SOME", "."]],
    "SOME": [["PLAIN"], ["PLAIN", ".", "RETURN"], ["RETURN"]],
    "PLAIN": [["EXPRESSION"], ["PLAIN", ".", "EXPRESSION"]],
    "RETURN": [["^", "EXPRESSION"]],
    "EXPRESSION": [["NAME", ":=", "EXPRESSION"], ["CASCADE"]],
    "CASCADE": [["WHOLE"], ["OUTERMOST", "MORE"]],
    "MORE": [[";", "MESSAGE"], ["MORE", ";", "MESSAGE"]],
    "MESSAGE": [["UN"], ["OP", "UNARY"], ["KEYWORDS"]],
    "KEYWORDS": [["KW", "BINARY"], ["KEYWORDS", "KW", "BINARY"]],
    "WHOLE": [["BINARY"], ["SENTKEYWORDS"], ["super", "KEYWORDS"]],
    "OUTERMOST": [["SENTUNARY"], ["SENTBINARY"], ["SENTKEYWORDS"]],
    "SENTUNARY": [["UNARY", "UN"]],
    "SENTBINARY": [["BINARY", "OP", "UNARY"]],
    "SENTKEYWORDS": [["BINARY", "KEYWORDS"]],
    "UNARY": [["PRIMARY"], ["SENTUNARY"], ["super", "UN"]],
    "BINARY": [["UNARY"], ["SENTBINARY"], ["super", "OP", "UNARY"]],
    "PRIMARY": [["NAME"], ["INT"], ["#(", "ITEMS", ")"], ["BLOCK"], ["(", "EXPRESSION", ")"]],
    "ITEMS": [[], ["ITEM", "ITEMS"]],
    "ITEM": [["INT"], ["UN"], ["OP"], ["KW"], ["(", "ITEMS", ")"], ["#(", "ITEMS", ")"]],
    "BLOCK": [["[", "VARIABLES", "STATEMENTS", "]"], ["[", "PARAMETERS", "]"], ["[", "PARAMETERS", "|", "BEHIND", "]"]],
    "PARAMETERS": [[":", "NAME"], ["PARAMETERS", ":", "NAME"]],
    "BEHIND": [["|", "NAMES", "|", "STATEMENTS"], ["SOME"], ["SOME", "."]],
}
WORDS = ["NAME", "INT", "OP", "KW", ";", ".", "^", "(", ")", "[", "]", ":", "|", ":=", "#(", "super"]


def empty_parts():
    found = set()
    while True:
        more = {part for part, rows in RULES.items() if any(all(word in found for word in row) for row in rows)}
        if more == found:
            return found
        found = more


EMPTY = empty_parts()


class Prefix:
    """The beginning of a source, word by word, by Earley's method: rows of (part, row, dot, origin)."""

    def __init__(self):
        self.rows = [{("SOURCE", 0, 0, 0)}]
        self.after_super = False
        self.close()

    def close(self):
        here = len(self.rows) - 1
        found = self.rows[here]
        waiting = list(found)
        while waiting:
            part, number, dot, origin = waiting.pop()
            row = RULES[part][number]
            new = []
            if dot < len(row) and row[dot] in RULES:
                new += [(row[dot], other, 0, here) for other in range(len(RULES[row[dot]]))]
                if row[dot] in EMPTY:
                    new.append((part, number, dot + 1, origin))
            elif dot == len(row):
                for part2, number2, dot2, origin2 in self.rows[origin]:
                    if RULES[part2][number2][dot2:dot2 + 1] == [part]:
                        new.append((part2, number2, dot2 + 1, origin2))
            for item in new:
                if item not in found:
                    found.add(item)
                    waiting.append(item)

    def following(self):
        """The words that can come next."""
        found = {RULES[part][number][dot] for part, number, dot, _ in self.rows[-1] if dot < len(RULES[part][number])}
        return sorted(word for word in found if word not in RULES)

    def go_on(self, word):
        """Takes a word, if it can stand here, and tells whether it can."""
        terms = {"super": ("super", "UN"), "NAME": ("NAME", "UN")}.get(word, (word,))
        found = set()
        after_super = False
        for part, number, dot, origin in self.rows[-1]:
            expected = RULES[part][number][dot:dot + 1]
            if expected and expected[0] in terms:
                found.add((part, number, dot + 1, origin))
                after_super = after_super or expected[0] == "super"
        if not found:
            return False
        self.rows.append(found)
        self.after_super = after_super
        self.close()
        return True

    def is_whole(self):
        """Whether the source can end here."""
        return any(part == "SOURCE" and dot == len(RULES[part][number]) for part, number, dot, _ in self.rows[-1])
