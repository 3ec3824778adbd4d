"""A desk that keeps rounds, and is told rows."""

from rimsteps.deskdeeds import answer, change, does_change
from rimsteps.deskrows import row_asked


class Desk:
    """Keeps the rounds of a picture, none at first, and the rounds that it kept ahead of each change."""

    def __init__(self):
        self.kept = []
        self.past = []

    def rounds(self):
        """The rounds that are kept, in order."""
        return list(self.kept)

    def say(self, row):
        """The answer to the row; or NoRow, NoText, NoRound, NoRounds, Twice, NoCell, TooWide."""
        word, things = row_asked(row, len(self.kept))
        if word == "undo":
            return self.go_back()
        if not does_change(word):
            return answer(word, self.kept, things)
        # What is refused raises here, ahead of any change.
        told, words = change(word, self.kept, things)
        self.past.append(self.kept)
        self.kept = told
        return words

    def go_back(self):
        """All as it was ahead of the last change that isn't undone yet."""
        if not self.past:
            return "none"
        self.kept = self.past.pop()
        return "ok"
