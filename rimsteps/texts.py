"""Rounds written as texts, and read from them.

Each function whose name ends with _in reads one word: it tells None where the word isn't written as it should be.
"""

from rimsteps.errors import NoText
from rimsteps.reading import ask_round
from rimsteps.rounds import BEGIN_WAYS
from rimsteps.runs import row_of_runs, runs_of

FIGURES = "0123456789"
STEP_FIGURES = "01234567"
MOST_FIGURES = 30
MOST_STEPS = 240


def by_figures(row):
    """The steps of the row as figures, - where there are none."""
    return "".join([str(step) for step in row]) if row else "-"


def by_runs(row):
    """The runs of the row behind a *, a point between each two."""
    return "*" + ".".join([f"{step}x{times}" if times > 1 else str(step) for step, times in runs_of(row)])


def show_row(row):
    """The row as it is written: by runs where this has fewer signs, else by figures."""
    runs = by_runs(row)
    figures = by_figures(row)
    return runs if len(runs) < len(figures) else figures


def show_round(one):
    """The round as four words."""
    sort, x, y, row = one
    return f"{sort} {x} {y} {show_row(row)}"


def show_rounds(some):
    """The rounds as rows, one for each."""
    return "\n".join([show_round(one) for one in some])


def are_figures(word):
    """Whether the word is made of figures alone, and of some."""
    return word != "" and all([sign in FIGURES for sign in word])


def sort_in(word):
    """The sort of a round."""
    return word if word in BEGIN_WAYS else None


def number_in(word):
    """The whole number, of at most thirty figures."""
    figures = word[1:] if word.startswith("-") else word
    if not are_figures(figures) or len(figures) > MOST_FIGURES:
        return None
    number = int(word)
    # So no 0 stands ahead, and there is no -0.
    return number if str(number) == word else None


def run_in(word):
    """The run, a tuple (step, times)."""
    step, cross, times = word.partition("x")
    if len(step) != 1 or step not in STEP_FIGURES:
        return None
    if not cross:
        return (int(step), 1)
    # Times of more figures are beyond any row, and may be beyond what can be read as a number.
    if not are_figures(times) or len(times) > 3:
        return None
    return (int(step), int(times))


def runs_in(word):
    """The row of runs with a point between each two."""
    runs = [run_in(part) for part in word.split(".")]
    if None in runs or sum([times for step, times in runs]) > MOST_STEPS:
        return None
    return row_of_runs(runs)


def figures_in(word):
    """The row of steps as figures, () of -."""
    if word == "-":
        return ()
    if len(word) > MOST_STEPS or not all([sign in STEP_FIGURES for sign in word]):
        return None
    return tuple([int(sign) for sign in word])


def row_in(word):
    """The row, written as show_row writes it and not otherwise."""
    row = runs_in(word[1:]) if word.startswith("*") else figures_in(word)
    return row if row is not None and show_row(row) == word else None


READERS = {"sort": sort_in, "number": number_in, "row": row_in}
ROUND_WORDS = ("sort", "number", "number", "row")
PLACE_WORDS = ("number", "number")


def things_read(text, at, forms):
    """What is read from the words of this row of the number at, each of the form that is due there; or NoText."""
    words = text.split(" ")
    things = []
    for place in range(min(len(words), len(forms))):
        reader = READERS[forms[place]]
        thing = reader(words[place])
        if thing is None:
            raise NoText(at, place)
        things.append(thing)
    if len(words) != len(forms):
        raise NoText(at, min(len(words), len(forms)))
    return tuple(things)


def read_place(text):
    """The two numbers in this row, the first one of a drawing; or NoText."""
    return things_read(text, 0, PLACE_WORDS)


def read_rounds(text):
    """The rounds of the text, in its order; or NoText, NoRound."""
    if text == "":
        return []
    told = [things_read(row, at, ROUND_WORDS) for at, row in enumerate(text.split("\n"))]
    for one in told:
        ask_round(one)
    return told
