"""Names that nothing has yet."""

from nestdeep.functions import is_name

LETTERS = "abcdefghijklmnopqrstuvwxyz"


def _more_names(word, found, taken, many):
    """Add names that begin with a word and are not taken to the list, as long as they are not so many."""
    for letter in LETTERS:
        name = word + letter
        if len(found) < many and is_name(name) and name not in taken:
            found.append(name)


def new_names(taken, many):
    """The list of so many different names that are not taken."""
    barred = {name: True for name in taken}
    found = []
    words = [""]
    while len(found) < many:
        words = [word + letter for word in words for letter in LETTERS]
        for word in words:
            if len(found) >= many:
                break
            _more_names(word, found, barred, many)
    return found
