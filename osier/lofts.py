"""Lofts: a book and programs that are changed deed by deed, and judged."""

from osier.deeds import after_deed, entry_of, kept_deed
from osier.errors import Nothing
from osier.judging import CELLS, judge


class Loft:
    """What stands now (a state, see osier.deeds), and the deeds that can be taken back or done again."""

    def __init__(self, book):
        self.state = (book, {})
        # Pairs (deed, state): the state ahead of a deed that can be undone, behind one that can be redone.
        self.past = []
        self.undone = []

    def begin(self, name, rows, starts, *, lossy=False):
        """Keep a program of that name, without wishes."""
        self.do_all([("begin", name, rows, starts, lossy)])

    def drop(self, name):
        """Keep the program no longer."""
        self.do_all([("drop", name)])

    def put(self, name, number, row):
        """Put a row ahead of the one of that number, or at the end."""
        self.do_all([("put", name, number, row)])

    def right(self, name, number, row):
        """Put another row in the place of the one of that number."""
        self.do_all([("right", name, number, row)])

    def take(self, name, number):
        """Take the row of that number out."""
        self.do_all([("take", name, number)])

    def wish(self, name, webs):
        """Tell the wishes of the program, or None."""
        self.do_all([("wish", name, webs)])

    def rule(self, shape, number, rule):
        """Put another rule in the place of the shape's rule of that number."""
        self.do_all([("rule", shape, number, rule)])

    def do_all(self, deeds):
        """Do all deeds in order, or none of them where one is refused."""
        state = self.state
        steps = []
        for deed in deeds:
            kept = kept_deed(deed)
            steps.append((kept, state))
            state = after_deed(state, kept)
        if steps:
            self.state = state
            self.past.extend(steps)
            self.undone = []

    def undo(self):
        """Take the last deed back; told is the deed."""
        if not self.past:
            raise Nothing()
        deed, ahead = self.past.pop()
        self.undone.append((deed, self.state))
        self.state = ahead
        return deed

    def redo(self):
        """Do the deed again that was taken back last; told is the deed."""
        if not self.undone:
            raise Nothing()
        deed, behind = self.undone.pop()
        self.past.append((deed, self.state))
        self.state = behind
        return deed

    def names(self):
        """The names of the programs, sorted."""
        return sorted(list(self.state[1]))

    def program(self, name):
        """The program of that name."""
        return entry_of(self.state, name)[0]

    def starts(self, name):
        """The beginnings of the program."""
        return list(entry_of(self.state, name)[1])

    def wishes(self, name):
        """The wishes of the program, or None."""
        wishes = entry_of(self.state, name)[2]
        return None if wishes is None else list(wishes)

    def judged(self, name, *, cells=CELLS):
        """What judge tells of the program as it stands now."""
        program, starts, wishes = entry_of(self.state, name)
        return judge(self.state[0], program, starts, wishes=wishes, cells=cells)

    def book(self):
        """The book as it stands now."""
        return self.state[0]

    def twin(self):
        """A loft that stands alike, with what can be undone and redone."""
        other = loft_at(self.state)
        other.past = list(self.past)
        other.undone = list(self.undone)
        return other

    def __eq__(self, other):
        return isinstance(other, Loft) and self.state == other.state

    def __len__(self):
        return len(self.state[1])


def loft_at(state):
    """A loft that stands so, with nothing to undo or redo."""
    loft = Loft(state[0])
    loft.state = state
    return loft
