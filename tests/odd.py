"""Objects whose == or hash is of no use, to be put in the place of any part of a value."""


class Refuses:
    """Its == raises."""

    def __eq__(self, other):
        raise RuntimeError("eq")

    __hash__ = object.__hash__


class Agrees:
    """It is equal to all values."""

    def __eq__(self, other):
        return True

    __hash__ = object.__hash__


class HasNoHash:
    """It cannot be looked up."""

    def __hash__(self):
        raise RuntimeError("hash")


def odd_values():
    return [Refuses(), Agrees(), HasNoHash()]


def odd_keys():
    return [Refuses(), Agrees()]


def parts(value):
    """The places of all parts of a value of tuples, as paths of positions."""
    found = [()]
    if isinstance(value, tuple):
        for at, item in enumerate(value):
            found.extend((at, *path) for path in parts(item))
    return found


def put(value, path, new):
    """The value with something else at a place."""
    if not path:
        return new
    return (*value[:path[0]], put(value[path[0]], path[1:], new), *value[path[0] + 1:])


def at(value, path):
    """What stands at a place of a value."""
    for position in path:
        value = value[position]
    return value


def oddly_spoilt(value):
    """The value with each part, and the whole, replaced by each of the odd ones."""
    return [put(value, path, odd) for path in parts(value) for odd in odd_values()]
