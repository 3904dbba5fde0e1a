"""What things suffer from: copies that are lacking, and copies under one roof or in one room."""

from threeroofs.dealing import crowd, dealt
from threeroofs.orders import drawer_of


def suffering(houses, key, many):
    names = dealt(houses, drawer_of(key), many)
    pairs = crowd(names)
    return (key, many - len(names), pairs[0], pairs[1])


def scant(houses, things):
    told = [suffering(houses, thing[0], thing[1]) for thing in things]
    return [numbers for numbers in told if max(numbers[1:]) > 0]
