"""What can be said of a program: kept by a table, broken by a run, or unsure."""

from osier.breaks import BROKEN, found_break
from osier.tables import KEPT, found_table

CELLS = 3
UNSURE = "unsure"


def judge(book, program, starts, *, wishes=None, cells=CELLS):
    """("kept", table), ("broken", run, word), or ("unsure", row, word, cells)."""
    told = found_table(book, program, starts, wishes=wishes)
    if told[0] == KEPT:
        return told
    failed, row, word = told
    looked = found_break(book, program, starts, wishes=wishes, cells=cells)
    if looked[0] == BROKEN:
        return looked
    return (UNSURE, row, word, looked[1])
