"""Texts of programs, written and read."""

from nestdeep.errors import InvalidProgram, InvalidText
from nestdeep.functions import bodies_of
from nestdeep.programs import Program
from nestdeep.textreader import Reader

INDENT = "  "


def _words_of(statement):
    """The words of a statement, without its bodies."""
    if statement[0] == "take":
        return ["take", str(statement[1]), statement[2]]
    if statement[0] == "shut":
        return ["shut", *statement[1]]
    if statement[0] == "call":
        return ["call", statement[1], *statement[2]]
    if statement[0] == "do":
        return ["do", statement[1]]
    if statement[0] == "loop" and statement[1] is not None:
        return ["loop", str(statement[1])]
    return [statement[0]]


def _body_lines(body, depth):
    """The lines of a body that stands so deep."""
    rows = []
    for statement in body:
        rows.append(INDENT * depth + " ".join(_words_of(statement)))
        for number, block in enumerate(bodies_of(statement)):
            if number == 1:
                rows.append(INDENT * depth + "else")
            rows.extend(_body_lines(block, depth + 1))
    return rows


def program_text(program):
    """The text of a program."""
    rows = []
    for name, params, body in program:
        rows.append(" ".join(["function", name, *params]))
        rows.extend(_body_lines(body, 1))
    return "".join([f"{row}\n" for row in rows])


def functions_in(text):
    """The list of the functions that a text writes, whether they are a program or not."""
    if not isinstance(text, str):
        raise InvalidText(0)
    rows = text.split("\n")
    # What stands behind the last line feed is no line, or one without its line feed.
    unended = rows.pop()
    reader = Reader()
    for at, row in enumerate(rows):
        reader.read(row, at + 1)
    if unended:
        raise InvalidText(len(rows) + 1)
    return reader.finish(len(rows) + 1)


def parse_program(text):
    """The program of a text; just the texts of programs are read."""
    functions = functions_in(text)
    try:
        program = Program(functions)
    except InvalidProgram as error:
        raise InvalidText(0) from error
    if program.functions() != functions:
        raise InvalidText(0)
    return program
