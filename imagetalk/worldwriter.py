"""Runs written down."""

from imagetalk.codetexts import write_made
from imagetalk.holding import made_row
from imagetalk.standing import Standing
from imagetalk.things import Method
from imagetalk.writer import body_text, method_text

HEAD = "imagetalk world"

# What parts the rows, so that it stands in none of them.
ROW_END = "~"


def escaped(row):
    """A row without line feeds and without what parts rows."""
    return row.replace("\\", "\\\\").replace("\n", "\\n").replace(ROW_END, "\\t")


def text_of_run(run):
    """The text of a run, which is the same for all that stand alike."""
    standing = Standing(run)
    rows = [*program_rows(run.stock), *plain_rows(run), *method_rows(run, standing)]
    rows.extend(standing.process_rows())
    rows.extend(standing.object_rows())
    text = ROW_END.join(rows)
    if "\\" in text or "\n" in text or text.count(ROW_END) >= len(rows):
        text = ROW_END.join([escaped(row) for row in rows])
    return ROW_END.join([HEAD, f"{len(rows)} {len(text)}", text])


def program_rows(stock):
    """The rows of the program."""
    classes = stock.source_program[0]
    rows = [str(len(classes))]
    for name, parent, fields, class_fields, methods, class_methods in classes:
        rows.extend([name, parent, " ".join(fields), " ".join(class_fields), f"{len(methods)} {len(class_methods)}"])
        for owner in (name, name + " class"):
            rows.extend([method_row(parsed) for parsed in stock.book.methods[owner].values()])
    rows.append(main_row(stock.book.main))
    return rows


def method_row(parsed):
    """The row of a method of the program, which is kept, as it stays the same."""
    if parsed.text is None:
        parsed.text = method_text(parsed.tree)
    return parsed.text


def main_row(parsed):
    """As method_row, of main."""
    if parsed.text is None:
        parsed.text = body_text(parsed.tree)
    return parsed.text


def plain_rows(run):
    """The rows of what was shown, of what is counted, and of the trace."""
    counts = f"{run.sent} {run.made} {run.rounds} {len(run.messages)}"
    return [run.output, counts, *[f"{depth} {selector} {name}" for depth, name, selector in run.messages]]


def method_rows(run, standing):
    """The rows of the methods that are at work: without their codes, if the classes still have them like this."""
    rows = [str(len(standing.made))]
    for made in standing.made:
        name, selector, trees, body = made
        method = current_method(run, name, selector)
        is_current = method is not None and made_row(method) == made
        rows.extend([name, selector, "" if is_current else write_made((selector, trees, body))])
    return rows


def current_method(run, name, selector):
    """The method with a source that a class itself has now, ready to be worked, None if it has none."""
    main = run.stock.main
    method = main
    if (name, selector) != (main.kind.name, main.selector):
        method = run.stock.method_for(run.stock.kind_named(name), selector)
        if not isinstance(method, Method) or method.kind.name != name:
            return None
    if method.body is None:
        run.prepare(method, method == main)
    return method
