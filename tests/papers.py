"""Judges of papers that share nothing with the package: by fractions, word for word as the document has it."""

from fractions import Fraction


def counts(line):
    return dict(line)


def size(line, sizes):
    return sum(count * sizes[frame] for frame, count in line)


def right_fraction(value, least):
    if type(value) is not tuple or len(value) != 2 or type(value[0]) is not int or type(value[1]) is not int:
        return False
    top, bottom = value
    return bottom >= 1 and top >= least and Fraction(top, bottom).denominator == bottom


def mixes(line, lines, weights):
    """Whether these fractions are weights of a mix of the lines that covers the line."""
    if sum(Fraction(*weight) for weight in weights) != 1:
        return False
    return all(sum(Fraction(*weight) * counts(other).get(frame, 0) for weight, other in zip(weights, lines)) >= count
               for frame, count in line)


def right_weights(line, lines, paper):
    if type(paper) is not tuple or len(paper) != len(lines):
        return False
    return all(right_fraction(weight, 0) for weight in paper) and mixes(line, lines, paper)


def right_parting(line, lines, paper):
    if type(paper) is not dict or any(type(value) is not int or value < 1 for value in paper.values()):
        return False
    frames = {frame for other in [line, *lines] for frame, _ in other}
    return frames <= set(paper) and all(size(line, paper) > size(other, paper) for other in lines)


def helping(term, terms):
    """The different terms of the list that can cover the term."""
    return list(dict.fromkeys(other for other in terms if other[2] == term[2] and set(other[1]) <= set(term[1])
                              and set(other[3]) <= set(term[3])))


def right_cover(term, terms, paper):
    if type(paper) is not dict or not all(other in helping(term, terms) for other in paper):
        return False
    if not all(right_fraction(weight, 1) for weight in paper.values()):
        return False
    return mixes(term[0], [other[0] for other in paper], list(paper.values()))


def right_parting_of(term, terms, paper):
    return right_parting(term[0], [other[0] for other in helping(term, terms)], paper)
