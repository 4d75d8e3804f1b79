"""Uses: which lines and sides of tests are used in some play, and the stations at the heads of loops."""

from nextcode.errors import NoLine
from nextcode.notes import case_of_note
from nextcode.search import notes_of
from nextcode.trees import is_integer


def used_lines(code):
    """The numbers of the lines that are used, ascending."""
    return tuple(sorted(list(notes_of(code).by_line)))


def used_sides(code):
    """The pairs (line, side) of the tests that come out so in some play, ascending."""
    return tuple(sorted(list(notes_of(code).by_side)))


def case_for_line(code, line):
    """A case in whose play the line is used, or None."""
    check_line(code, line)
    return case_in(notes_of(code).by_line, line)


def case_for_side(code, line, side):
    """A case in whose play the test of the line comes out so, or None."""
    check_line(code, line)
    if side is not True and side is not False:
        return None
    return case_in(notes_of(code).by_side, (line, side))


def all_stations(code):
    """All stations that occur in some play, each once."""
    return list(notes_of(code).by_station)


def case_for_station(code, station):
    """A case in whose play the station occurs, or None."""
    notes = notes_of(code).by_station
    for one in notes:
        if is_station(station, one):
            return case_of_note(notes[one])
    return None


def is_station(value, station):
    """Whether any value is a station: 1 and 0 are not True and False."""
    if type(value) != tuple or len(value) != len(station):
        return False
    return all([type(one) is type(other) and one == other for one, other in zip(value, station)])


def case_in(notes, what):
    """The case for the first note of this, or None."""
    return case_of_note(notes[what]) if what in notes else None


def check_line(code, line):
    if not is_integer(line) or not 1 <= line <= len(code):
        raise NoLine(line)
