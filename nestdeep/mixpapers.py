"""Judges of the papers of lines and terms; they accept a paper exactly if it is right."""

from nestdeep.covering import helpers
from nestdeep.frames import frames_in, size_of
from nestdeep.functions import is_name
from nestdeep.lines import check_line, check_lines
from nestdeep.terms import check_term, check_terms, is_term
from nestdeep.values import fraction_sum, is_count, is_fraction


def is_mix_above(line, lines, weights):
    """Whether fractions, one for each of the lines, are the weights of a mix that covers the line."""
    if fraction_sum(weights) != (1, 1):
        return False
    tables = [dict(other) for other in lines]
    for frame, count in line:
        parts = [(weight[0] * table.get(frame, 0), weight[1]) for table, weight in zip(tables, weights)]
        top, bottom = fraction_sum(parts)
        if top < count * bottom:
            return False
    return True


def _are_sizes_apart(line, lines, paper):
    """Whether this is a dict of sizes at which the line is greater than each one of the lines."""
    if not isinstance(paper, dict):
        return False
    if not all([is_name(frame) and is_count(paper[frame], 1) for frame in paper]):
        return False
    if not all([frame in paper for frame in frames_in([line, *lines])]):
        return False
    return all([size_of(line, paper) > size_of(other, paper) for other in lines])


def is_weights(line, lines, paper):
    """Whether these are the weights of a mix of the lines that covers the line."""
    check_line(line)
    check_lines(lines)
    if not isinstance(paper, tuple) or len(paper) != len(lines):
        return False
    if not all([is_fraction(weight) and weight[0] >= 0 for weight in paper]):
        return False
    return is_mix_above(line, lines, paper)


def is_parting(line, lines, paper):
    """Whether these are sizes at which the line is greater than each one of the lines."""
    check_line(line)
    check_lines(lines)
    return _are_sizes_apart(line, lines, paper)


def is_cover(term, terms, paper):
    """Whether this is a cover of the term by some of the terms."""
    check_term(term)
    check_terms(terms)
    if not isinstance(paper, dict):
        return False
    helping = helpers(term, terms)
    for other in paper:
        if not is_term(other) or other not in helping:
            return False
        if not is_fraction(paper[other]) or paper[other][0] < 1:
            return False
    return is_mix_above(term[0], [other[0] for other in paper], [paper[other] for other in paper])


def is_parting_of(term, terms, paper):
    """Whether these are sizes at which the term's line is greater than those of all that could cover it."""
    check_term(term)
    check_terms(terms)
    return _are_sizes_apart(term[0], [other[0] for other in helpers(term, terms)], paper)
