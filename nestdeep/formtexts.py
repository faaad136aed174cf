"""Texts of forms, written and read."""

from nestdeep.errors import InvalidForm, InvalidText
from nestdeep.formchecks import first_wrong_callback, is_set_of, is_term_of
from nestdeep.forms import Form
from nestdeep.lines import line_text, parse_line


def _callback_text(callback):
    if isinstance(callback, str):
        return callback
    return f"{callback[0]}({','.join(callback[1])})"


def _words_of(word, callbacks):
    """A word and the texts of callbacks behind it."""
    return " ".join([word, *[_callback_text(callback) for callback in callbacks]])


def _term_text(term):
    line, shut, tag, returned = term
    parts = [_callback_text(tag), line_text(line)]
    if shut:
        parts.append(_words_of("shut", shut))
    if returned:
        parts.append(_words_of("returns", returned))
    return " ".join(parts)


def form_text(form):
    """The text of a form."""
    rows = [_words_of("form", form.callbacks)]
    rows.extend([_words_of("endless", callbacks) for callbacks in form.endless])
    rows.extend([_term_text(term) for term in form.terms])
    return "".join([f"{row}\n" for row in rows])


def _callback_in(word):
    """The callback that a word writes; whether it is one is checked by what reads it."""
    if "(" not in word:
        return word
    name, _, rest = word.partition("(")
    inner = rest.removesuffix(")")
    return name, tuple(inner.split(",")) if inner else ()


def _callbacks_in(text):
    """The tuple of the callbacks that stand in the words of a text."""
    return tuple([_callback_in(word) for word in text.split(" ")]) if text else ()


def _behind_word(row, word):
    """What stands ahead of a word of a line and what behind it; without the word, all stands ahead."""
    ahead, sign, behind = f"{row} ".partition(f" {word} ")
    return (ahead, behind.removesuffix(" ")) if sign else (row, "")


def _read_line(text):
    """The line of a text, None if it writes none."""
    try:
        return parse_line(text)
    except InvalidText:
        return None


def _term_in(row):
    """What the line of a term tells; whether it is a term is checked by what reads it."""
    ahead, returned = _behind_word(row, "returns")
    ahead, shut = _behind_word(ahead, "shut")
    tag, _, line = ahead.partition(" ")
    return _read_line(line), tuple(shut.split(" ")) if shut else (), _callback_in(tag), _callbacks_in(returned)


def _read_callbacks(row):
    """The callbacks of the first line of a text."""
    callbacks = _callbacks_in(row.removeprefix("form").removeprefix(" "))
    if first_wrong_callback(callbacks) is not None or _words_of("form", callbacks) != row:
        raise InvalidText(1)
    return callbacks


def _read_row(callbacks, row, number, endless, terms):
    """Read a further line, which has this number, into the endless sets or the terms."""
    if row.startswith("endless"):
        found = _callbacks_in(row.removeprefix("endless").removeprefix(" "))
        if not is_set_of(callbacks, found) or _words_of("endless", found) != row:
            raise InvalidText(number)
        endless.append(found)
        return
    term = _term_in(row)
    if not is_term_of(callbacks, term) or _term_text(term) != row:
        raise InvalidText(number)
    terms.append(term)


def read_form(text):
    """The form of a text; just the texts of forms are read."""
    if not isinstance(text, str) or not text:
        raise InvalidText(0)
    rows = text.split("\n")
    # What stands behind the last line feed is no line, or one without its line feed.
    unended = rows.pop()
    if not rows:
        raise InvalidText(1)
    callbacks = _read_callbacks(rows[0])
    endless, terms = [], []
    for at in range(1, len(rows)):
        _read_row(callbacks, rows[at], at + 1, endless, terms)
    if unended:
        raise InvalidText(len(rows) + 1)
    try:
        form = Form(callbacks, tuple(endless), tuple(terms))
    except InvalidForm as error:
        raise InvalidText(0) from error
    if form_text(form) != text:
        raise InvalidText(0)
    return form
