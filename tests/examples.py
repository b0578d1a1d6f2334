"""Examples as the document shows them: what is entered behind ">>> ", and what comes out or is raised."""

import ast

from allinputs.errors import SheetError


def told_error(error):
    """An error as the document shows it."""
    fields = ", ".join(f"{name}={value!r}" for name, value in vars(error).items())
    return f"raises {type(error).__name__}({fields})"


def outcome(line, names):
    """What the document shows behind a line; "" for nothing."""
    tree = ast.parse(line)
    try:
        if not isinstance(tree.body[0], ast.Expr):
            exec(compile(tree, "example", "exec"), names)
            return ""
        value = eval(compile(ast.Expression(tree.body[0].value), "example", "eval"), names)
    except SheetError as error:
        return told_error(error)
    return "" if value is None else repr(value)


def pairs_of(text):
    """The pairs of a line that is entered and what the document shows behind it."""
    pairs = []
    for line in text.strip().split("\n"):
        if line.startswith(">>> "):
            pairs.append((line[4:], ""))
        else:
            pairs[-1] = (pairs[-1][0], line)
    return pairs
