"""The rows of a desk: what their words ask of a bench, and how it answers."""

from nestdeep.errors import InvalidRow, InvalidText
from nestdeep.formtexts import form_text
from nestdeep.functions import is_name
from nestdeep.housetexts import parse_entry
from nestdeep.lines import line_text
from nestdeep.orders import never_deeper
from nestdeep.programtexts import functions_in


def _news_text(news):
    parts = [" ".join([word, *names]) for word, names in zip(("computed", "changed", "entries"), news)]
    return " ; ".join(parts)


def _drop(bench, names):
    return _news_text(bench.drop(names))


def _leave(bench, names):
    return _news_text(bench.drop_entry(names[0]))


def _undo(bench, _):
    bench.undo()
    return "ok"


def _form(bench, names):
    return form_text(bench.form(names[0])).removesuffix("\n")


def _lines(bench, names):
    lines = bench.lines(names[0])
    return "endless" if lines is None else " ; ".join([line_text(line) for line in lines])


def _state(bench, names):
    return bench.state(names[0])


def _deeper(bench, names):
    return "no" if never_deeper(bench.form(names[0]), bench.form(names[1])) else "yes"


PLAIN_ROWS = {
    "drop": _drop, "leave": _leave, "undo": _undo, "form": _form, "lines": _lines, "state": _state, "deeper": _deeper,
}
# How many names stand in a row; a row to drop functions has one or more.
MANY_NAMES = {"put": 0, "house": 1, "leave": 1, "undo": 0, "form": 1, "lines": 1, "state": 1, "deeper": 2}


def _words_of(row):
    """The words of the first line of a row. Raises InvalidRow for what is no row."""
    if not isinstance(row, str):
        raise InvalidRow(row)
    head, feed, _ = row.partition("\n")
    word, *names = head.split(" ")
    many = MANY_NAMES.get(word, max(1, len(names)) if word == "drop" else -1)
    if len(names) != many or not all([is_name(name) for name in names]) or (feed and word in PLAIN_ROWS):
        raise InvalidRow(row)
    return word, names


def _put(bench, row):
    """The answer to a row that puts functions."""
    _, _, text = row.partition("\n")
    try:
        functions = functions_in(text)
    except InvalidText as error:
        # The functions begin in the second line of the row.
        raise InvalidText(error.line + 1) from error
    names = [function[0] for function in functions]
    if names != sorted(names):
        raise InvalidText(0)
    return _news_text(bench.put(functions))


def _set_entry(bench, row):
    """The answer to a row that sets an entry."""
    name, entry = parse_entry(bench.current(), f"{row}\n")
    house, sizes, limit = entry
    return _news_text(bench.set_entry(name, house, sizes=sizes, limit=limit))


def answer(bench, row):
    """What a bench answers to a row."""
    word, names = _words_of(row)
    if word == "put":
        return _put(bench, row)
    if word == "house":
        return _set_entry(bench, row)
    action = PLAIN_ROWS[word]
    return action(bench, names)
