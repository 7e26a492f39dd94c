"""Deeds of a loft: what each of them makes of a state, or why it is refused.

A state is (book, entries), entries being (program, starts, wishes) by their names: starts a tuple of webs, wishes
another one or None. No state is changed: a deed makes another one, so all that stood ahead of it can be kept.
"""

from osier.books import Book, kept_rule
from osier.errors import BadLoftName, Full, NoNumber, NoProgram, Taken
from osier.programs import JUMP, PLACES, Program, ready
from osier.tables import need_all_items
from osier.words import is_small_word

MOST_PROGRAMS = 6


def kept_deed(deed):
    """The deed with nothing in it that can be changed behind the call, and lossy or not behind a begin."""
    word, *places = deed
    match word:
        case "begin":
            rows = tuple([tuple(row) for row in places[1]])
            return (word, places[0], rows, tuple(places[2]), True in places[3:])
        case "put" | "right":
            return (word, places[0], places[1], tuple(places[2]))
        case "wish":
            return (word, places[0], None if places[1] is None else tuple(places[1]))
        case "rule":
            return (word, places[0], places[1], kept_rule(places[2]))
    return (word, *places)


def after_deed(state, deed):
    """The state behind a kept deed."""
    word, *places = deed
    action = ACTIONS[word]
    return action(state, *places)


def entry_of(state, name):
    """The (program, starts, wishes) of that name."""
    book, entries = state
    if name not in entries:
        raise NoProgram(name)
    return entries[name]


def with_entry(state, name, entry):
    """The state with this entry of that name; refuse too many names in what its program begins or ends with."""
    program, starts, wishes = entry
    for web in starts + (wishes or ()):
        ready(program, web)
    book, entries = state
    return (book, {**entries, name: entry})


def need_number(number, many):
    """Refuse a number that is none of so many, from 0 on."""
    if not 0 <= number < many:
        raise NoNumber(number)


def after_begin(state, name, rows, starts, lossy):
    """The state with one program more."""
    book, entries = state
    if not is_small_word(name, 1, 8):
        raise BadLoftName(name)
    if name in entries:
        raise Taken(name)
    program = Program(rows, lossy=lossy)
    need_all_items(book, [starts])
    after = with_entry(state, name, (program, starts, None))
    # The names of its beginnings are asked for ahead of the room for it.
    if len(entries) == MOST_PROGRAMS:
        raise Full()
    return after


def after_drop(state, name):
    """The state without the program."""
    entry_of(state, name)
    book, entries = state
    return (book, {known: entries[known] for known in entries if known != name})


def after_put(state, name, number, row):
    """The state with a row more in the program, ahead of the row of that number, or at the end."""
    rows = entry_of(state, name)[0].row_rows()
    need_number(number, len(rows) + 1)
    numbers = [old + 1 if old >= number else old for old in range(len(rows) + 1)]
    rows = led_along(rows, numbers)
    return with_rows(state, name, rows[:number] + [row] + rows[number:])


def after_right(state, name, number, row):
    """The state with another row of that number."""
    rows = entry_of(state, name)[0].row_rows()
    need_number(number, len(rows))
    return with_rows(state, name, rows[:number] + [row] + rows[number + 1:])


def after_take(state, name, number):
    """The state with a row less in the program."""
    rows = entry_of(state, name)[0].row_rows()
    need_number(number, len(rows))
    numbers = [old - 1 if old > number else old for old in range(len(rows) + 1)]
    rows = led_along(rows, numbers)
    return with_rows(state, name, rows[:number] + rows[number + 1:])


def led_along(rows, numbers):
    """The rows with their jumps by the new numbers; numbers has one for each old number, the end's too."""
    return [row[:-1] + (numbers[row[-1]],) if PLACES[row[0]][-1] == JUMP else row for row in rows]


def with_rows(state, name, rows):
    """The state where the program of that name has these rows."""
    program, starts, wishes = entry_of(state, name)
    return with_entry(state, name, (Program(rows, lossy=program.lossy), starts, wishes))


def after_wish(state, name, webs):
    """The state where the program of that name has these wishes, or none."""
    program, starts, wishes = entry_of(state, name)
    need_all_items(state[0], [webs])
    return with_entry(state, name, (program, starts, webs))


def after_rule(state, shape, number, rule):
    """The state with another rule of that number in its book."""
    book, entries = state
    rules = book.rules(shape)
    need_number(number, len(rules))
    rules[number] = rule
    # All other rules are right still, so a book can refuse just this one.
    shapes = [(name, points, rules if name == shape else others) for name, points, others in book.shape_rows()]
    return (Book(shapes), entries)


ACTIONS = {
    "begin": after_begin,
    "drop": after_drop,
    "put": after_put,
    "right": after_right,
    "take": after_take,
    "wish": after_wish,
    "rule": after_rule,
}
