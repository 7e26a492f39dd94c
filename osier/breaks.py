"""Runs of a program on heaps, and those that break."""

from osier.growing import heaps_of, holds_to_one
from osier.programs import done
from osier.tables import FAULT_UNLIKE, made_ready, need_all_items

MOST_STANDS = 300
BROKEN = "broken"
UNBROKEN = "none"


class Looking:
    """The stands (row, heap) that were met, each once, and from which of them each one came."""

    def __init__(self):
        self.stands = []
        self.sources = []
        self.known = {}
        self.beyond = False

    def meet(self, stand, source):
        """Put the stand behind the others where it is new; source is the place of the one ahead, or None."""
        row, heap = stand
        key = (row, repr(heap))
        if key in self.known:
            return
        if len(self.stands) == MOST_STANDS:
            self.beyond = True
            return
        self.known[key] = True
        self.stands.append(stand)
        self.sources.append(source)

    def run_to(self, at):
        """The run that led to the stand at that place."""
        run = []
        while at is not None:
            run.append(self.stands[at])
            at = self.sources[at]
        return run[::-1]


def found_break(book, program, starts, *, wishes=None, cells=3):
    """("broken", run, word), or ("none", cells): up to how many cells all was gone through."""
    need_all_items(book, [starts, wishes])
    begun, wished = made_ready(program, starts, wishes)
    for number in range(cells + 1):
        looking = Looking()
        for heap in heaps_with(book, begun, number):
            looking.meet((0, heap), None)
        broken = first_broken(book, program, wished, looking)
        if broken is not None:
            return broken
        if looking.beyond:
            return (UNBROKEN, number - 1)
    return (UNBROKEN, cells)


def heaps_with(book, begun, number):
    """The heaps of the beginnings with just so many cells, by their texts, each once."""
    heaps = {}
    for web in begun:
        for heap in heaps_of(book, web, cells=number):
            if len(heap) == number:
                heaps[repr(heap)] = heap
    return [heaps[text] for text in sorted(list(heaps))]


def first_broken(book, program, wished, looking):
    """("broken", run, word) of the first stand that breaks, or None; what comes of each one is met on the way."""
    at = 0
    while at < len(looking.stands):
        told = what_follows(book, program, wished, looking.stands[at])
        if isinstance(told, str):
            return (BROKEN, looking.run_to(at), told)
        for stand in told:
            looking.meet(stand, at)
        at += 1
    return None


def what_follows(book, program, wished, stand):
    """The outcomes of the stand, none at the end; or the word by which it breaks."""
    row, heap = stand
    if row < len(program):
        return done(program, row, heap)
    if wished is None or holds_to_one(book, wished, heap):
        return []
    return FAULT_UNLIKE


def breaks_by(book, program, starts, run, *, wishes=None):
    """The word by which the run breaks; None where it is no run, or doesn't break."""
    need_all_items(book, [starts, wishes, [web for row, web in run]])
    begun, wished = made_ready(program, starts, wishes)
    if not run or not is_begun(book, begun, run[0]):
        return None
    told = what_follows(book, program, wished, run[0])
    for stand in run[1:]:
        if isinstance(told, str) or stand not in told:
            return None
        told = what_follows(book, program, wished, stand)
    return told if isinstance(told, str) else None


def is_begun(book, begun, stand):
    """True where a run can begin with the stand."""
    row, web = stand
    return row == 0 and holds_to_one(book, begun, web)
