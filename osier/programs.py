"""Programs: rows that are done on webs."""

from osier.errors import BadRow, Full, NoRow, Shut
from osier.webs import CELL, GONE, MOST_NAMES, MOST_POINTS, NOTHING, Web, pruned_web
from osier.words import is_small_word

MOST_ROWS = 24
NAME = "name"
FIELD = "field"
JUMP = "jump"
FIELDS = ("l", "r")
# What stands behind the word of each row.
PLACES = {
    "new": ("name",),
    "free": ("name",),
    "copy": ("name", "name"),
    "nil": ("name",),
    "read": ("name", "name", "field"),
    "write": ("name", "field", "name"),
    "clear": ("name", "field"),
    "same": ("name", "name", "jump"),
    "none": ("name", "jump"),
    "maybe": ("jump",),
    "go": ("jump",),
}
# Where in a row the name stands whose cell is touched.
TOUCHED_PLACE = {"read": 2, "free": 1, "write": 1, "clear": 1}
FAULT_NOTHING = "nothing"
FAULT_GONE = "gone"
FAULT_LOST = "lost"


class Program:
    """Rows, numbered from 0; a lossy program may leave cells out to which nothing leads any longer."""

    def __init__(self, rows, *, lossy=False):
        self.rows = tuple([tuple(row) for row in rows])
        self.lossy = lossy
        need_right_rows(self.rows)

    def row_rows(self):
        """All rows in order."""
        return list(self.rows)

    def names(self):
        """The names of the rows, sorted."""
        return rows_names(self.rows)

    def __eq__(self, other):
        return isinstance(other, Program) and self.rows == other.rows and self.lossy == other.lossy

    def __len__(self):
        return len(self.rows)


def need_right_rows(rows):
    """Refuse a wrong count of rows, then the first row that is wrong, then too many names."""
    if not 1 <= len(rows) <= MOST_ROWS:
        raise BadRow(-1)
    for number, row in enumerate(rows):
        if not is_row(row, len(rows)):
            raise BadRow(number)
    if len(rows_names(rows)) > MOST_NAMES:
        raise BadRow(-2)


def is_row(row, end):
    """True where a program with that end can have the row."""
    if len(row) == 0 or row[0] not in PLACES:
        return False
    kinds = PLACES[row[0]]
    return len(row) == len(kinds) + 1 and all([is_place(kind, place, end) for kind, place in zip(kinds, row[1:])])


def is_place(kind, place, end):
    """True where the place is of that kind."""
    if kind == JUMP:
        return isinstance(place, int) and 0 <= place <= end
    if kind == FIELD:
        return place in FIELDS
    return isinstance(place, str) and is_small_word(place, 1, 6)


def rows_names(rows):
    """The names of the rows, sorted, each once."""
    return sorted({place for row in rows for kind, place in zip(PLACES[row[0]], row[1:]) if kind == NAME})


def ready(program, web):
    """The web with all names of the program; those that it lacked lead to nothing."""
    pairs = web.name_rows()
    known = [name for name, target in pairs]
    pairs.extend([(name, NOTHING) for name in program.names() if name not in known])
    if len(pairs) > MOST_NAMES:
        raise Full()
    return Web(pairs, web.item_rows())


def row_at(program, number):
    """The row of that number."""
    if not 0 <= number < len(program):
        raise NoRow(number)
    return program.rows[number]


def touched(program, number, web):
    """The point that the row touches, or 0."""
    row = row_at(program, number)
    if row[0] not in TOUCHED_PLACE:
        return NOTHING
    return max(NOTHING, web.target(row[TOUCHED_PLACE[row[0]]]))


def done(program, number, web):
    """The outcomes of the row, or the word of its fault."""
    row = row_at(program, number)
    fault = name_fault(row, web)
    if fault is not None:
        return fault
    point = touched(program, number, web)
    if point != NOTHING and web.item_rows()[point - 1][0] != CELL:
        raise Shut(point)
    if PLACES[row[0]][-1] == JUMP:
        return [(following, web) for following in next_rows(row, number, web)]
    changed, many = changed_web(row, web)
    if len(changed) < many and not program.lossy:
        return FAULT_LOST
    return [(number + 1, changed)]


def name_fault(row, web):
    """The fault of a name that leads to no point where the row needs one, or to a cell that was let go; or None."""
    if row[0] in TOUCHED_PLACE:
        faults = {NOTHING: FAULT_NOTHING, GONE: FAULT_GONE}
        return faults.get(web.target(row[TOUCHED_PLACE[row[0]]]))
    if row[0] in ("same", "none"):
        asked = [web.target(name) for name in row[1:-1]]
        return FAULT_GONE if GONE in asked else None
    return None


def next_rows(row, number, web):
    """The numbers of the rows that can follow a row that changes nothing."""
    word = row[0]
    jump = row[-1]
    if word == "go":
        return [jump]
    if word == "maybe":
        return [number + 1] if jump == number + 1 else [number + 1, jump]
    if word == "same":
        leaps = web.target(row[1]) == web.target(row[2])
    else:
        leaps = web.target(row[1]) == NOTHING
    return [jump if leaps else number + 1]


def changed_web(row, web):
    """What the row makes of the web, and how many points it would have if none were lost."""
    word = row[0]
    pairs = web.name_rows()
    items = web.item_rows()
    many = len(items)
    match word:
        case "new":
            many += 1
            if many > MOST_POINTS:
                raise Full()
            items.append((CELL, (NOTHING, NOTHING)))
            pairs = led_to(pairs, row[1], many)
        case "free":
            many -= 1
            point = web.target(row[1])
            pairs = [(name, let_go(target, point)) for name, target in pairs]
            items = [(kind, tuple([let_go(target, point) for target in targets])) for kind, targets in items]
        case "copy":
            pairs = led_to(pairs, row[1], web.target(row[2]))
        case "nil":
            pairs = led_to(pairs, row[1], NOTHING)
        case "read":
            fields = items[web.target(row[2]) - 1][1]
            pairs = led_to(pairs, row[1], fields[FIELDS.index(row[3])])
        case "write":
            set_field(items, web.target(row[1]), row[2], web.target(row[3]))
        case "clear":
            set_field(items, web.target(row[1]), row[2], NOTHING)
    return (pruned_web(pairs, items), many)


def led_to(pairs, name, target):
    """The names, that one leading to the target."""
    return [(known, target if known == name else before) for known, before in pairs]


def let_go(target, point):
    """The target where the point is let go."""
    return GONE if target == point else target


def set_field(items, point, field, target):
    """Let the field of the cell at the point lead to the target."""
    word, targets = items[point - 1]
    fields = list(targets)
    fields[FIELDS.index(field)] = target
    items[point - 1] = (word, tuple(fields))
