"""What a desk does with its rounds: deeds that change them, and questions.

Each is handed the rounds and the list of the things behind its word. A deed tells the new rounds and its answer, a
question its answer.
"""

from rimsteps.around import around
from rimsteps.back import picture_of
from rimsteps.cells import MOST_CELLS
from rimsteps.errors import NoText, TooWide
from rimsteps.joins import put, taken
from rimsteps.measures import sums_of
from rimsteps.moves import greater_all, mirrored_all, moved_all, turned_all
from rimsteps.names import shape
from rimsteps.texts import by_figures, read_rounds, show_rounds
from rimsteps.thin import thinned

MOST_THINNED = 40
ROW_END = " / "


def cells_in(some):
    """How many cells the picture has, told by its rounds: they may lie far apart."""
    return sums_of(some)[0]


def ask_cells(many):
    """TooWide where a desk can't keep so many cells."""
    if many > MOST_CELLS:
        raise TooWide()


def answer_of_change(told, lost, come):
    """The new rounds, and how many are gone and come."""
    return (told, f"gone {len(lost)} come {len(come)}")


def deed_put(some, things):
    told, lost, come = put(some, things[0], things[1])
    ask_cells(cells_in(told))
    return answer_of_change(told, lost, come)


def deed_take(some, things):
    told, lost, come = taken(some, things[0], things[1])
    return answer_of_change(told, lost, come)


def deed_move(some, things):
    return (moved_all(some, things[0], things[1]), "ok")


def deed_turn(some, things):
    return (turned_all(some, things[0]), "ok")


def deed_mirror(some, things):
    return (mirrored_all(some), "ok")


def deed_great(some, things):
    times = things[0]
    ask_cells(cells_in(some) * times * times)
    return (greater_all(some, times), "ok")


def rounds_read(text):
    """The rounds of the text behind the word read; or NoText, NoRound, NoRounds, TooWide."""
    # Without any sign it is no text of no rounds, that is read alone, but a row without signs.
    if text == "":
        raise NoText(0, 0)
    told = read_rounds(text.replace(ROW_END, "\n"))
    ask_cells(len(picture_of(told)))
    return told


def deed_read(some, things):
    return (rounds_read(things[0]) if things else [], "ok")


def say_show(some, things):
    return show_rounds(some).replace("\n", ROW_END) if some else "-"


def say_cells(some, things):
    return str(cells_in(some))


def say_pieces(some, things):
    return str(len([one for one in some if one[0] == "rim"]))


def say_holes(some, things):
    return str(len([one for one in some if one[0] == "hole"]))


def say_in(some, things):
    holder = around(some)[things[0]]
    return "-" if holder is None else str(holder)


def say_shape(some, things):
    sort, row = shape(some[things[0]])
    return by_figures(row)


def say_like(some, things):
    return "yes" if shape(some[things[0]]) == shape(some[things[1]]) else "no"


def say_thin(some, things):
    if sum([len(row) for sort, x, y, row in some]) > MOST_THINNED:
        raise TooWide()
    return " ".join([str(len(corners)) for corners in thinned(some, things[0])]) if some else "-"


CHANGES = {
    "put": deed_put,
    "take": deed_take,
    "move": deed_move,
    "turn": deed_turn,
    "mirror": deed_mirror,
    "great": deed_great,
    "read": deed_read,
}
QUESTIONS = {
    "show": say_show,
    "cells": say_cells,
    "pieces": say_pieces,
    "holes": say_holes,
    "in": say_in,
    "shape": say_shape,
    "like": say_like,
    "thin": say_thin,
}


def does_change(word):
    """Whether the rounds are changed by what this word asks for."""
    return word in CHANGES


def change(word, some, things):
    """The new rounds, and the answer."""
    deed = CHANGES[word]
    return deed(some, things)


def answer(word, some, things):
    """The answer to a question."""
    question = QUESTIONS[word]
    return question(some, things)
