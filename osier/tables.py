"""Tables: for each row of a program the webs that can stand there."""

from osier.books import need_items
from osier.folding import comes_to, folded
from osier.growing import openings
from osier.programs import done, ready, touched

MOST_WIDE = 8
MOST_ENTRIES = 60
KEPT = "kept"
FAILED = "failed"
FAULT_WIDE = "wide"
FAULT_MANY = "many"
FAULT_UNLIKE = "unlike"


def found_table(book, program, starts, *, wishes=None):
    """("kept", table), or ("failed", row, word): the row of the entry at which it fails, and why."""
    need_all_items(book, [starts, wishes])
    begun, wished = made_ready(program, starts, wishes)
    table = []
    known = {}
    for web in begun:
        word = added(table, known, 0, folded(book, web))
        if word is not None:
            return (FAILED, 0, word)
    at = 0
    while at < len(table):
        row, web = table[at]
        if row == len(program):
            word = None if is_wished(book, web, wished) else FAULT_UNLIKE
        else:
            word = went_through(book, program, row, web, table, known)
        if word is not None:
            return (FAILED, row, word)
        at += 1
    return (KEPT, table)


def need_all_items(book, groups):
    """Refuse the first web, group by group, that does not fit the book; a group may be None."""
    for group in groups:
        for web in group or []:
            need_items(book, web)


def made_ready(program, starts, wishes):
    """Beginnings and wishes made ready; no wishes stay None."""
    begun = [ready(program, web) for web in starts]
    wished = None if wishes is None else [ready(program, web) for web in wishes]
    return (begun, wished)


def added(table, known, row, web):
    """Put the pair behind the table where it is not in it; told is the word by which this fails, or None."""
    if len(web) > MOST_WIDE:
        return FAULT_WIDE
    key = (row, repr(web))
    if key in known:
        return None
    if len(table) == MOST_ENTRIES:
        return FAULT_MANY
    known[key] = True
    table.append((row, web))
    return None


def went_through(book, program, row, web, table, known):
    """Put what comes of the entry behind the table; told is the word by which it fails, or None."""
    for opening in touched_openings(book, program, row, web):
        outcomes = done(program, row, opening)
        if isinstance(outcomes, str):
            return outcomes
        for following, outcome in outcomes:
            word = added(table, known, following, folded(book, outcome))
            if word is not None:
                return word
    return None


def touched_openings(book, program, row, web):
    """The web opened at the point that the row touches; the web itself where it touches none."""
    point = touched(program, row, web)
    return openings(book, web, point) if point > 0 else [web]


def is_wished(book, web, wished):
    """True where the web comes to one of the wishes by folds, or there are no wishes."""
    return wished is None or comes_to(book, web, wished)


def closed(book, program, starts, table, *, wishes=None):
    """True where the table has what stands at the beginning and what comes of all that it has, without a fault."""
    need_all_items(book, [starts, wishes, [web for row, web in table]])
    begun, wished = made_ready(program, starts, wishes)
    if not all([stands(book, table, 0, web) for web in begun]):
        return False
    for row, web in table:
        if row == len(program):
            if not is_wished(book, web, wished):
                return False
        elif not goes_on(book, program, row, web, table):
            return False
    return True


def stands(book, table, row, web):
    """True where some web that comes of this one by folds stands at the row."""
    return comes_to(book, web, [other for number, other in table if number == row])


def goes_on(book, program, row, web, table):
    """True where no opening of the entry has a fault, and the table has what comes of it."""
    for opening in touched_openings(book, program, row, web):
        outcomes = done(program, row, opening)
        if isinstance(outcomes, str):
            return False
        if not all([stands(book, table, following, outcome) for following, outcome in outcomes]):
            return False
    return True
