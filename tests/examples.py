"""Runs the examples of the document as they stand there."""

import ast

from trailkeep import errors


def told(error):
    parts = ", ".join(f"{name}={worth!r}" for name, worth in vars(error).items())
    return f"raises {error.__class__.__name__}({parts})"


def outcome(line, names):
    """What a line of an example shows: the value of its expression, an error, or None."""
    try:
        if isinstance(ast.parse(line).body[0], ast.Expr):
            return repr(eval(line, names))
        exec(line, names)
        return None
    except errors.TrailError as error:
        return told(error)


def differences(text):
    """The triples (line, expected, shown) of the lines of an example that show something else."""
    found = []
    names = {}
    lines = text.strip().split("\n")
    for at, line in enumerate(lines):
        if line.startswith(">>> "):
            follows = lines[at + 1] if at + 1 < len(lines) else ">>> "
            expected = None if follows.startswith(">>> ") else follows
            shown = outcome(line[4:], names)
            if shown != expected:
                found.append((line, expected, shown))
    return found
