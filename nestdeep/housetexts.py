"""Texts of entries: houses with sizes and limits, written and read."""

from nestdeep.errors import InvalidText
from nestdeep.housereader import EntryReader


def _with_shut(words, shut):
    """A line of these words and of what is shut, if anything is."""
    return " ".join([*words, "shut", *shut] if shut else words)


def entry_text(name, entry):
    """The text of an entry."""
    house, sizes, limit = entry
    rows = [f"house {name}", _with_shut(["task", house.task], house.shut)]
    for interrupt in house:
        function, times, shut = house.handler(interrupt)
        rows.append(_with_shut(["handler", interrupt, function, str(times)], shut))
    if sizes is not None:
        rows.extend([f"size {frame} {sizes[frame]}" for frame in house.program.frames()])
    if limit is not None:
        rows.append(f"limit {limit}")
    return "".join([f"{row}\n" for row in rows])


def parse_entry(program, text):
    """The name and the entry of a text; just the texts of entries of the program are read."""
    if not isinstance(text, str):
        raise InvalidText(0)
    rows = text.split("\n")
    # What stands behind the last line feed is no line, or one without its line feed.
    unended = rows.pop()
    reader = EntryReader(program)
    for at, row in enumerate(rows):
        if not reader.reads(row):
            raise InvalidText(at + 1)
    if unended:
        raise InvalidText(len(rows) + 1)
    if not reader.is_whole():
        raise InvalidText(0)
    return reader.name, reader.entry()
