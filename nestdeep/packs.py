"""Packed forms (nestdeep.codes): how the form of a body is made of the forms of its parts.

Nothing here changes a packed form that it is passed; what is made may share parts with it.
"""

from nestdeep.codes import CALLS, END, NOW
from nestdeep.hulls import is_covered_row, left_over, plus, scaled


def least_masks(masks):
    """The list of the masks within which no other one lies, each once."""
    least = []
    # A part of a mask is a smaller number, so it comes first.
    for mask in sorted(set(masks)):
        if not [other for other in least if other | mask == mask]:
            least.append(mask)
    return least


def has_any_within(masks, whole):
    """Whether one of the masks lies within the whole."""
    for mask in masks:
        if mask | whole == whole:
            return True
    return False


def helping_rows(groups, shut, returned):
    """The rows of all groups with a shut and a returned within these."""
    rows = []
    for (less, fewer), others in groups.items():
        if less | shut == shut and fewer | returned == returned:
            rows.extend(others)
    return rows


def covers(table, tag, shut, returned, row):
    """Whether the terms of a table cover a term."""
    return is_covered_row(row, helping_rows(table.get(tag, {}), shut, returned))


def least_groups(groups, most=None):
    """The groups, all with one tag, of the terms that the other ones do not cover.

    If these are more than most, some of them are left out, but not so many that they are not more.
    """
    if len(groups) == 1:
        return {key: left_over(rows, [], most) for key, rows in groups.items()}
    least = {}
    count = 0
    # Within a shut and a returned lie only such as come ahead of them.
    for key in sorted(groups):
        left = left_over(groups[key], helping_rows(least, key[0], key[1]), most)
        if left:
            least[key] = left
            count += len(left)
        if most is not None and count > most:
            break
    return least


def both_groups(groups, more):
    """The groups with the terms of both."""
    result = {key: groups[key] for key in groups}
    for key, rows in more.items():
        result[key] = [*result[key], *rows] if key in result else rows
    return result


def put_groups(ends, groups):
    """The groups of each end put on each term."""
    result = {}
    for (shut, returned), rows in ends.items():
        for (more, back), others in groups.items():
            sums = [plus(row, other) for row in rows for other in others]
            result.setdefault((shut | more, returned | back), []).extend(sums)
    return result


def _without(endless, groups):
    """The groups whose returned contains no endless set."""
    return {key: rows for key, rows in groups.items() if not has_any_within(endless, key[1])}


def _table_without(endless, table):
    """The table of the terms whose returned contains no endless set."""
    left = {tag: _without(endless, groups) for tag, groups in table.items()} if endless else table
    return {tag: groups for tag, groups in left.items() if groups}


def chosen(endless, table, most=None):
    """The packed form with the least of these endless sets and the least terms without them.

    If these terms are more than most, some of them are left out, but not so many that they are not more.
    """
    least = least_masks(endless)
    left = _table_without(least, table)
    return least, {tag: least_groups(groups, most) for tag, groups in left.items()}


def is_table_at_most(table, form):
    """Whether a packed form covers each term of a table, or has an endless set within its returned."""
    for tag, groups in table.items():
        for (shut, returned), rows in groups.items():
            helping = helping_rows(form[1].get(tag, {}), shut, returned)
            if [row for row in rows if not is_covered_row(row, helping)] and not has_any_within(form[0], returned):
                return False
    return True


def how_many(form):
    """How many terms a packed form has."""
    return sum([len(rows) for groups in form[1].values() for rows in groups.values()])


def start(nothing):
    """The form of a body without statements; nothing is the row of the line ()."""
    return [], {NOW: {(0, 0): [nothing]}, END: {(0, 0): [nothing]}}


def _replaced(table, tag, groups):
    """The table with other groups for one tag."""
    result = {other: rows for other, rows in table.items() if other != tag}
    result[tag] = groups
    return result


def _merged_ends(form, shut, returned):
    """The form when at its end these, too, are shut and have returned."""
    endless, table = form
    merged = {}
    for (before, back), rows in table[END].items():
        if not has_any_within(endless, back | returned):
            merged.setdefault((before | shut, back | returned), []).extend(rows)
    if not merged:
        return behind_stop(form)
    return endless, _replaced(table, END, least_groups(merged))


def behind_take(form, row):
    """The form of a body that has an end, and of a take behind it."""
    endless, table = form
    ends = {key: [plus(other, row) for other in rows] for key, rows in table[END].items()}
    # That all ends have the same more changes nothing in what covers them.
    now = least_groups(both_groups(table[NOW], ends))
    return endless, _replaced(_replaced(table, END, ends), NOW, now)


def behind_shut(form, shut):
    """The form of a body that has an end, and of a shut behind it."""
    return _merged_ends(form, shut, 0)


def behind_call(form, tag):
    """The form of a body that has an end, and of a call of a callback behind it."""
    endless, table = form
    calls = least_groups(both_groups(table.get(tag, {}), table[END]))
    return _merged_ends((endless, _replaced(table, tag, calls)), 0, 1 << (tag - CALLS))


def behind_stop(form):
    """The form of a body and of a stop behind it."""
    return form[0], {tag: groups for tag, groups in form[1].items() if tag != END}


def turned(first, second, most=None):
    """The form of two bodies in turn; most is that of chosen."""
    endless, table = first
    if END not in table:
        return first
    ends = table[END]
    more = [returned | mask for _, returned in ends for mask in second[0]]
    result = behind_stop(first)[1]
    for tag, groups in second[1].items():
        result[tag] = both_groups(result.get(tag, {}), put_groups(ends, groups))
    if endless or more:
        return chosen([*endless, *more], result, most)
    # With the other tags there are only the terms of the first body, which are the least ones.
    return [], {tag: least_groups(groups, most) if tag in second[1] else groups for tag, groups in result.items()}


def eithered(first, second):
    """The form of an either."""
    table = dict(first[1])
    for tag, groups in second[1].items():
        table[tag] = both_groups(table.get(tag, {}), groups)
    return chosen([*first[0], *second[0]], table)


def roomed(form, nothing):
    """The form of a room; nothing is the row of the line ()."""
    endless, table = form
    if END not in table:
        return form
    backs = least_masks([returned for _, returned in table[END]])
    return endless, _replaced(table, END, {(0, returned): [nothing] for returned in backs})


def _scaled_groups(groups, many):
    return {key: [scaled(row, many) for row in rows] for key, rows in groups.items()}


def looped(form, rounds, nothing):
    """The form of a loop; nothing is the row of the line ()."""
    endless, table = form
    ends = table.get(END, {})
    result = behind_stop(form)[1]
    if rounds is None:
        more = [returned for (_, returned), rows in ends.items() if [row for row in rows if row != nothing]]
        result[END] = {(0, 0): [nothing]}
        return chosen([*endless, *more], result)
    if rounds > 1 and ends:
        earlier = _scaled_groups(ends, rounds - 1)
        result = {tag: both_groups(groups, put_groups(earlier, groups)) for tag, groups in result.items()}
    result[END] = both_groups({(0, 0): [nothing]}, _scaled_groups(ends, rounds))
    return chosen(endless, result)
