"""Sums over rows of quotients, and the least and the greatest of a row."""

from math import lcm

from hungwall.kinds import is_row
from hungwall.needs import need
from hungwall.quotients import lies_below, product_of_two, sum_of_two


def sum_of_row(row):
    """The sum of a list or tuple that is known to hold quotients alone."""
    found = (0, 1)
    for part in row:
        found = sum_of_two(found, part)
    return found


def over_one_bottom(row):
    """The pair (tops, bottom): integers that, over one bottom, stand for what is known to be a row."""
    bottom = 1
    for part in row:
        bottom = lcm(bottom, part[1])
    return ([top * (bottom // below) for top, below in row], bottom)


def ascending(row):
    """The different quotients of what is known to be a row, ascending as numbers."""
    tops, _ = over_one_bottom(row)
    found = {top: part for top, part in zip(tops, row)}
    return tuple([found[top] for top in sorted(found)])


def total(row):
    """The sum of a row."""
    need(is_row(row), "row")
    return sum_of_row(row)


def weighed(row, others):
    """The sum of the products of the quotients at the same index."""
    need(is_row(row), "row")
    need(is_row(others) and len(others) == len(row), "others")
    return sum_of_row([product_of_two(one, other) for one, other in zip(row, others)])


def least_of(row):
    """The least quotient of a row that is not empty."""
    need(is_row(row) and len(row) > 0, "row")
    found = row[0]
    for part in row:
        if lies_below(part, found):
            found = part
    return found


def greatest_of(row):
    """The greatest quotient of a row that is not empty."""
    need(is_row(row) and len(row) > 0, "row")
    found = row[0]
    for part in row:
        if lies_below(found, part):
            found = part
    return found
