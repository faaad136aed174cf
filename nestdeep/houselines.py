"""What is reckoned for a house, once for each: whether it is endless, its lines and their piles."""

from nestdeep.errors import Endless, TooMany
from nestdeep.packs import least_groups
from nestdeep.piles import MOST_LINES, Piles
from nestdeep.reckoner import reckoner_of
from nestdeep.rings import ring_of


def house_forms(house, reckoner):
    """A tuple of the form of the task and a dict from the interrupts to the forms of their handlers."""
    task = reckoner.own_form(house.task)
    return task, {interrupt: reckoner.own_form(house.handler(interrupt)[0]) for interrupt in house}


def open_interrupts(house):
    """The sorted list of the interrupts that have handlers and that the house does not shut."""
    return [interrupt for interrupt in house if interrupt not in house.shut]


def endless_parts(house, forms):
    """The list of tuples (interrupt, function) for which the house is endless; the task's interrupt is None."""
    task, handlers = forms
    parts = [(None, house.task)] if () in task.endless else []
    for interrupt in open_interrupts(house):
        if () in handlers[interrupt].endless:
            parts.append((interrupt, house.handler(interrupt)[0]))
    return parts


def own_forms(house):
    """The forms of a house by its program. Raises TooMany as form_of for the task, then for the handlers."""
    return house_forms(house, reckoner_of(house.program, house.task))


def found_ring(house):
    """A ring of the house, None if it is not endless."""
    parts = endless_parts(house, own_forms(house))
    if not parts:
        return None
    interrupt, function = parts[0]
    return interrupt, ring_of(house.program, function, ())


def _told_terms(codes, interrupts, form, shut):
    """The "now" terms of a form as tuples (row, mask, term), shut being shut, too.

    Only these interrupts count, so that some terms can be covered by others now.
    """
    groups = {}
    terms = {}
    for term in form.terms:
        if term[2] == "now":
            mask = sum([1 << at for at, name in enumerate(interrupts) if name in term[1] or name in shut])
            row = codes.row_of(term[0])
            groups.setdefault((mask, 0), []).append(row)
            terms.setdefault((mask, row), term)
    least = least_groups(groups)
    return [(row, mask, terms[mask, row]) for (mask, _), rows in least.items() for row in rows]


def lines_with_piles(house, forms, codes):
    """A dict from the lines of a house that is not endless, by these forms, to tuples of piles that have them.

    Raises TooMany(None) if there are too many.
    """
    task, handlers = forms
    interrupts = open_interrupts(house)
    kinds = []
    for interrupt in interrupts:
        _, times, shut = house.handler(interrupt)
        kinds.append((times, _told_terms(codes, interrupts, handlers[interrupt], shut)))
    heap = Piles(kinds, _told_terms(codes, interrupts, task, ()), codes.nothing).whole()
    if len(heap) > MOST_LINES:
        raise TooMany(None)
    found = {}
    for row, piles in heap.items():
        named = [(None if number is None else interrupts[number], count, term) for number, count, term in piles]
        found[codes.line_of(row)] = tuple(named)
    return found


def _lines_if_few(house):
    """The lines with their piles, an empty dict if there are too many."""
    reckoner = reckoner_of(house.program, house.task)
    try:
        return lines_with_piles(house, house_forms(house, reckoner), reckoner.bodies.codes)
    except TooMany:
        return {}


def piles_of_lines(house):
    """A dict from the lines of a house to tuples of piles (interrupt, count, term); nobody changes it."""
    if house.kept is None:
        ring = found_ring(house)
        if ring is not None:
            raise Endless(ring)
        house.kept = _lines_if_few(house)
    # Each house that is not endless has a line.
    if not house.kept:
        raise TooMany(None)
    return house.kept
