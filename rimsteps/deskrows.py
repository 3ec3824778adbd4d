"""The rows that a desk is told: their words, and the numbers behind them."""

from rimsteps.errors import NoRow
from rimsteps.texts import number_in

# For each word what numbers stand behind it: x and y of a place, indexes of rounds, or from a least to a greatest.
FORMS = {
    "put": ("place", "place"),
    "take": ("place", "place"),
    "move": ("place", "place"),
    "turn": ((0, 3),),
    "mirror": (),
    "great": ((1, 4),),
    "show": (),
    "cells": (),
    "pieces": (),
    "holes": (),
    "in": ("index",),
    "shape": ("index",),
    "like": ("index", "index"),
    "thin": ((0, 1000000),),
    "undo": (),
}


def is_such(number, form, many):
    """Whether this is a number of this form, None being none; many is how many rounds there are."""
    if number is None:
        return False
    if form == "place":
        return True
    least, greatest = (0, many - 1) if form == "index" else form
    return least <= number <= greatest


def numbers_read(word, others, many):
    """The numbers in the words behind this one; or NoRow."""
    if word not in FORMS or len(others) != len(FORMS[word]):
        raise NoRow()
    numbers = [number_in(other) for other in others]
    if not all([is_such(number, form, many) for number, form in zip(numbers, FORMS[word])]):
        raise NoRow()
    return numbers


def row_asked(row, many):
    """The first word, and a list of what is behind it: numbers, of read the text, if any; or NoRow."""
    if "\n" in row:
        raise NoRow()
    word, blank, rest = row.partition(" ")
    if word == "read":
        return (word, [rest] if blank else [])
    return (word, numbers_read(word, rest.split(" ") if blank else [], many))
