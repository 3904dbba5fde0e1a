"""Shares: fractions from nought on, as tuples (top, bottom) in lowest terms."""

from threeroofs.errors import NoShare
from threeroofs.words import is_whole


def greatest_divisor(one, other):
    while other > 0:
        rest = one % other
        one = other
        other = rest
    return one


def share(part, whole):
    if not is_whole(part) or not is_whole(whole):
        raise NoShare("the part and the whole must be whole numbers")
    if part < 0 or whole < 1:
        raise NoShare("the part must be 0 or more, the whole 1 or more")
    divisor = greatest_divisor(part, whole)
    return (part // divisor, whole // divisor)


def plus(one, other):
    return share(one[0] * other[1] + other[0] * one[1], one[1] * other[1])


def is_less(one, other):
    return one[0] * other[1] < other[0] * one[1]
