"""Prices of frames at which rows are told from one another: dicts from the numbers of frames."""

from nestdeep.hulls import left_over, prices_apart


def parting_prices(rows, most):
    """The list of prices at each of which another corner of some of the rows, about so many, is worth the most."""
    some = rows[::len(rows) // most + 1]
    corners = left_over(some, []) if some else []
    if len(corners) < 2:
        return []
    return [prices_apart(row, [other for other in corners if other != row]) for row in corners]


def _between(prices, others):
    """Prices between two prices, of both as much."""
    most, other_most = max(list(prices.values())), max(list(others.values()))
    found = {at: price * other_most for at, price in prices.items()}
    for at, price in others.items():
        found[at] = found.get(at, 0) + price * most
    return found


def with_more_prices(prices, most):
    """Prices and such as are between two of them, at most so many."""
    found = prices[:most]
    for apart in range(1, len(prices)):
        if len(found) >= most:
            break
        found.extend([_between(prices[at], prices[at + apart]) for at in range(len(prices) - apart)])
    return found[:most]
