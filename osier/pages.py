"""Pages: the text of a loft, and the loft of a text."""

from osier.books import Book
from osier.deeds import after_begin, after_wish
from osier.errors import BadPage, OsierError, Taken
from osier.lofts import loft_at
from osier.programs import JUMP, PLACES
from osier.webs import DIGITS, read_web

LINE_WORDS = ("shape", "program", "lossy", "row", "from", "to")
MOST_STARTS = 6
MOST_WISHES = 6
MOST_DIGITS = 2


def write_page(loft):
    """The text of the loft."""
    lines = [shape_line(shape) for shape in loft.book().shape_rows()]
    for name in loft.names():
        lines.extend(program_lines(loft, name))
    return "".join([f"{line}\n" for line in lines])


def shape_line(shape):
    """The line of a shape."""
    name, points, rules = shape
    texts = ";".join([rule_text(rule) for rule in rules])
    return f"shape {name} {points} {texts}"


def rule_text(rule):
    """A rule as a line of a page has it."""
    left, right, inner = rule
    return ",".join([left, right] + [".".join([name, *letters]) for name, letters in inner])


def program_lines(loft, name):
    """The lines of a program: its name, its rows, what it begins with and what it ends with."""
    program = loft.program(name)
    lines = [f"lossy {name}" if program.lossy else f"program {name}"]
    for row in program.row_rows():
        places = " ".join([str(place) for place in row])
        lines.append(f"row {places}")
    lines.extend([f"from {web!r}" for web in loft.starts(name)])
    lines.extend([f"to {web!r}" for web in loft.wishes(name) or []])
    return lines


def read_page(text):
    """The loft that writes the text."""
    lines = text.removesuffix("\n").split("\n") if text else []
    for number, line in enumerate(lines, start=1):
        if not any([line.startswith(f"{word} ") for word in LINE_WORDS]):
            raise BadPage(number)
    try:
        loft = loosely_read(lines)
    except (OsierError, Taken):
        raise BadPage(0) from None
    # The reading lets much by (another order of the lines): only what is written just so is a page.
    if write_page(loft) != text:
        raise BadPage(0)
    return loft


def loosely_read(lines):
    """A loft of the lines, whatever the order of shapes and programs, of rows, beginnings and wishes is."""
    shapes = []
    programs = []
    for line in lines:
        word, blank, rest = line.partition(" ")
        if word == "shape":
            shapes.append(read_shape(rest))
        elif word in ("program", "lossy"):
            programs.append((rest, word == "lossy", [], [], []))
        elif programs:
            read_part(programs[-1], word, rest)
        else:
            raise BadPage(0)
    state = (Book(shapes), {})
    for program in programs:
        state = after_program(state, program)
    return loft_at(state)


def read_shape(text):
    """The (name, points, rules) of what stands behind the word shape."""
    words = text.split(" ")
    if len(words) != 3:
        raise BadPage(0)
    name, points, rules = words
    return (name, read_number(points), [read_rule(rule) for rule in rules.split(";")])


def read_number(text):
    """The number of a text of digits."""
    # More digits than any number of a page has are not made a number: Python itself refuses very long ones.
    if not 1 <= len(text) <= MOST_DIGITS or not all([sign in DIGITS for sign in text]):
        raise BadPage(0)
    return int(text)


def read_rule(text):
    """The rule of a text as "-,p,list.p"."""
    parts = text.split(",")
    if len(parts) < 2:
        raise BadPage(0)
    left, right, *inner = parts
    return (left, right, tuple([read_inner(part) for part in inner]))


def read_inner(text):
    """The inner shape of a text as "list.p"."""
    name, *letters = text.split(".")
    return (name, tuple(letters))


def read_part(program, word, text):
    """Put the row, the beginning or the wish that the text tells behind those that the program has."""
    name, lossy, rows, starts, wishes = program
    match word:
        case "row":
            rows.append(read_row(text))
        case "from":
            starts.append(read_web(text))
        case "to":
            wishes.append(read_web(text))


def read_row(text):
    """The row of a text as "none x 3"."""
    word, *places = text.split(" ")
    # A row of a wrong word or count of places is refused, or written otherwise, as all others are.
    kinds = PLACES.get(word, ())
    told = [read_number(place) if kind == JUMP else place for kind, place in zip(kinds, places)]
    return (word, *told)


def after_program(state, program):
    """The state with one program more, and its wishes."""
    name, lossy, rows, starts, wishes = program
    if not 1 <= len(starts) <= MOST_STARTS or len(wishes) > MOST_WISHES:
        raise BadPage(0)
    state = after_begin(state, name, rows, tuple(starts), lossy)
    return after_wish(state, name, tuple(wishes)) if wishes else state
