"""What a function form has that another one with the same callbacks lacks, and contexts in which this shows.

A LACK is a tuple (word, value): "endless" and an endless set, "returns" and the returned of an end,
or "term" and another term.
"""

from nestdeep.codes import END, codes_of_forms
from nestdeep.contexts import frames_of_form, told_depth
from nestdeep.covering import helpers
from nestdeep.formchecks import contains_any
from nestdeep.frames import size_of
from nestdeep.hulls import is_covered_row
from nestdeep.mixing import parting_prices
from nestdeep.packs import helping_rows


def lacking_sets(one, other):
    """The list of the endless sets of the one within which none of the other one's lies."""
    return [callbacks for callbacks in one.endless if not contains_any(other.endless, callbacks)]


def lacking_returns(one, other):
    """The list of the returned of ends of the one within which none of the other one's lies."""
    return [returned for returned in one.returns if not contains_any(other.returns, returned)]


def lacking_terms(one, other):
    """The tuple of the terms of the one, no ends, that the terms of the other one do not cover."""
    codes = codes_of_forms([one, other])
    table = codes.packed(other)[1]
    lacking = {}
    for tag, groups in codes.packed(one)[1].items():
        if tag != END:
            for (shut, returned), rows in groups.items():
                helping = helping_rows(table.get(tag, {}), shut, returned)
                left = [row for row in rows if not is_covered_row(row, helping)]
                if left:
                    lacking.setdefault(tag, {})[shut, returned] = left
    return codes.terms_of(lacking)


def first_lack(one, other):
    """The first of what shows that the one is deeper in some context; None if it is never deeper."""
    for callbacks in lacking_sets(one, other):
        return "endless", callbacks
    for returned in lacking_returns(one, other):
        if not contains_any(other.endless, returned):
            return "returns", returned
    for term in lacking_terms(one, other):
        if not contains_any(other.endless, term[3]):
            return "term", term
    return None


def _context(callbacks, back, cells_of, handlers, sizes, behind):
    """A context in which just what is back returns."""
    passed = tuple([(callback in back, cells_of.get(callback, 0)) for callback in callbacks])
    return passed, tuple(sorted(handlers.items())), tuple(sorted(sizes.items())), behind


def _term_context(term, other, sizes):
    """A context in which a term is deeper than all that the other form has."""
    line, shut, tag, returned = term
    helping = [helper[0] for helper in helpers(term, other.terms)]
    found = {**sizes, **parting_prices(line, helping)}
    # So many cells weigh more than any line of the other form, so that just its helpers come near.
    most = 1 + max([size_of(another[0], found) for another in other.terms])
    closed = sorted(set([name for another in other.terms for name in another[1] if name not in shut]))
    cells_of = {} if tag == "now" else {tag: most}
    return _context(other.callbacks, returned, cells_of, {name: most for name in closed}, found, 0)


def context_of(lack, one, other):
    """A context in which the one is deeper than the other, by what this lacks and does not outdo by being endless."""
    word, value = lack
    sizes = {frame: 1 for frame in [*frames_of_form(one), *frames_of_form(other)]}
    if word == "term":
        return _term_context(value, other, sizes)
    context = _context(one.callbacks, value, {}, {}, sizes, 0)
    if word == "endless":
        return context
    return _context(one.callbacks, value, {}, {}, sizes, 1 + told_depth(other, context))


def is_deeper_in(one, other, context):
    """Whether the one has the greater depth in a context that fits both."""
    depth, least = told_depth(one, context), told_depth(other, context)
    return least is not None and (depth is None or depth > least)
