"""Trees in which the messages that are done in place have kinds of their own: "choice" and "loop"."""

# For each selector that chooses: the truth that is wanted, and what stands in the place of a block that is not there.
CHOICES = {
    "ifTrue:": (True, ("var", "nil")),
    "ifFalse:": (False, ("var", "nil")),
    "ifTrue:ifFalse:": (True, None),
    "ifFalse:ifTrue:": (False, None),
    "and:": (True, ("var", "false")),
    "or:": (False, ("var", "true")),
}
LOOPS = {"whileTrue:": True, "whileFalse:": False}


def marked(tree):
    """The tree with ("choice", receiver, wanted, block, block or name) and ("loop", block, wanted, block)."""
    marker = Marker()
    statements, _, _ = marker.mark_all(tree[4])
    return (*tree[:4], statements)


def in_place_form(tree):
    """A message as it is done in place if the variables of its blocks let it be, None if it is sent in any case."""
    _, subject, selector, arguments = tree
    if selector in CHOICES:
        if not all([plain_block(argument) for argument in arguments]):
            return None
        wanted, other = CHOICES[selector]
        return ("choice", subject, wanted, arguments[0], arguments[1] if other is None else other)
    if selector in LOOPS and plain_block(subject) and plain_block(arguments[0]):
        return ("loop", subject, LOOPS[selector], arguments[0])
    return None


def plain_block(tree):
    """Whether it is a written block without parameters."""
    return tree[0] == "block" and tree[1] == ()


class Marker:
    """Marks trees, the inner ones first. Sets of names are told by the bits of integers."""

    def __init__(self):
        self.bits = {}

    def bit_of(self, name):
        """The bit of a name."""
        return self.bits.setdefault(name, 1 << len(self.bits))

    def mark_all(self, trees):
        """As mark, for several trees together."""
        rows = [self.mark(tree) for tree in trees]
        named = 0
        kept = 0
        for _, inner_named, inner_kept in rows:
            named |= inner_named
            kept |= inner_kept
        return (tuple([tree for tree, _, _ in rows]), named, kept)

    def mark(self, tree):
        """The tree marked, the names in it, and those of them that lasting blocks in it name."""
        kind = tree[0]
        if kind == "var":
            return (tree, self.bit_of(tree[1]), 0)
        if kind == "set":
            inner, named, kept = self.mark(tree[2])
            return ((kind, tree[1], inner), named | self.bit_of(tree[1]), kept)
        if kind == "return":
            inner, named, kept = self.mark(tree[1])
            return ((kind, inner), named, kept)
        if kind == "send":
            return self.mark_send(tree)
        if kind == "super":
            arguments, named, kept = self.mark_all(tree[2])
            return ((kind, tree[1], arguments), named, kept)
        if kind == "cascade":
            return self.mark_cascade(tree)
        if kind == "block":
            statements, named, _ = self.mark_all(tree[3])
            return ((*tree[:3], statements), named, named)
        return (tree, 0, 0)

    def mark_cascade(self, tree):
        """As mark, for a cascade: its messages are sent, whatever their selectors are."""
        subject, named, kept = self.mark(tree[1])
        messages = []
        for selector, trees in tree[2]:
            arguments, inner_named, inner_kept = self.mark_all(trees)
            messages.append((selector, arguments))
            named |= inner_named
            kept |= inner_kept
        return (("cascade", subject, tuple(messages)), named, kept)

    def mark_send(self, tree):
        """As mark, for a message."""
        _, subject, selector, arguments = tree
        form = in_place_form(tree)
        if form is None:
            parts, named, kept = self.mark_all((subject, *arguments))
            return (("send", parts[0], selector, parts[1:]), named, kept)
        if form[0] == "loop":
            blocks, inner_named, inner_kept, lasting = self.mark_blocks((subject, *arguments))
            named = kept = 0
        else:
            subject, named, kept = self.mark(subject)
            blocks, inner_named, inner_kept, lasting = self.mark_blocks(arguments)
            blocks = (subject, *blocks)
        sent = ("send", blocks[0], selector, blocks[1:])
        if lasting:
            return (sent, named | inner_named, kept | inner_named)
        return (in_place_form(sent), named | inner_named, kept | inner_kept)

    def mark_blocks(self, blocks):
        """As mark_all, for blocks that may be gone through in place, and whether one of them cannot be."""
        found = []
        named = 0
        kept = 0
        lasting = False
        for block in blocks:
            statements, inner_named, inner_kept = self.mark_all(block[3])
            found.append((*block[:3], statements))
            named |= inner_named
            kept |= inner_kept
            for name in block[2]:
                lasting = lasting or self.bit_of(name) & inner_kept != 0
        return (tuple(found), named, kept, lasting)
