"""The limits on codes whose lines have their forms: which line is the first one at fault."""

from nextcode.lines import LOOPS, REGISTERS, UP

SEARCHES = ("find", "after", "first", "put", "drop")
MOST_READS = 12
MOST_WRITES = 12

# What `at` is set from ahead of a loop, in their order.
FROM_ROOT = ((("root", None),),)
STEP_DOWN = ((("at", "left"),), (("at", "right"),))
PERHAPS_UP = ((), (("at", "up"),))


def least_fault(kind, ups, lines, block):
    """The number of the least line that breaks a limit, or None."""
    found = barred_lines(kind, ups, lines)
    loops = {}
    for way in ways_through(block):
        found.extend(faults_on_way(kind, way))
        note_loops(loops, way)
    for row, is_first in loops.values():
        found.extend(faults_in_loop(row, is_first and kind in SEARCHES))
    return min(found, default=None)


def barred_lines(kind, ups, lines):
    """The lines, on ways or not, with a word that is not for this kind or these trees."""
    barred = []
    if not ups:
        barred.append("up")
    if kind != "put":
        barred.append("new")
    if kind not in ("find", "after", "drop"):
        barred.append("key")
    found = []
    for number, line in enumerate(lines, start=1):
        words = line.replace(".", " ").split(" ")
        if any([word in barred for word in words]):
            found.append(number)
    return found


def ways_through(block):
    """All ways through the rows of a block: lists of rows, each one up to its quit."""
    ways = [[]]
    for row in block:
        branches = branches_of(row)
        longer = []
        for way in ways:
            if is_over(way):
                longer.append(way)
            else:
                longer.extend([way + branch for branch in branches])
        ways = longer
    return ways


def branches_of(row):
    """The ways through one row; a loop is passed."""
    if row.said[0] != "if":
        return [[row]]
    return [[row] + way for way in ways_through(row.body) + ways_through(row.other)]


def is_over(way):
    return bool(way) and way[-1].said[0] == "quit"


def is_loop(row):
    return row.said[0] in LOOPS


def note_loops(loops, way):
    """Notes the loops of a way by their numbers, and of each one whether it is the first loop on some way."""
    passed = [row for row in way if is_loop(row)]
    for place, row in enumerate(passed):
        was_first = row.number in loops and loops[row.number][1]
        loops[row.number] = (row, was_first or place == 0)


def faults_on_way(kind, way):
    """The lines outside loops, and the heads of loops, that are at fault on a way."""
    found = []
    ahead = []
    many = 0
    for row in way:
        if is_loop(row):
            if not may_stand(kind, row, many, ahead):
                found.append(row.number)
            ahead = []
            many += 1
        else:
            ahead.append(row)
            if kind not in SEARCHES and reads_root(row):
                found.append(row.number)
    found.extend([row.number for row in ahead if reads_link(row)][MOST_READS:])
    found.extend([row.number for row in ahead if is_write(row)][MOST_WRITES:])
    return found


def reads_root(row):
    return row.said[0] == "read" and row.said[2] == ("root", None)


def reads_link(row):
    return row.said[0] == "read" and row.said[2][1] is not None


def is_write(row):
    return row.said[0] in ("write", "gets")


def may_stand(kind, loop, many, ahead):
    """Whether a loop may stand behind so many other ones, and behind the rows ahead since the last of them."""
    steps = right_steps(kind, loop.said[0], many)
    settings = tuple([row.said[2] for row in ahead if sets_at(row)])
    return settings in steps and are_right_ahead(ahead)


def right_steps(kind, word, many):
    """What `at` may be set from ahead of a loop with this word, behind so many other loops."""
    if kind in SEARCHES:
        if word == UP or many > 1:
            return ()
        return FROM_ROOT if many == 0 else STEP_DOWN
    if many > 0:
        return ()
    return PERHAPS_UP if word == UP else STEP_DOWN


def sets_at(row):
    return row.said[0] == "read" and row.said[1] == "at"


def are_right_ahead(ahead):
    """Whether the rows ahead of a loop set registers from registers and none alone, and none behind a step."""
    is_stepped = False
    for row in ahead:
        if is_write(row):
            return False
        if sets_at(row):
            is_stepped = is_stepped or reads_link(row)
        elif row.said[0] == "read":
            name, link = row.said[2]
            if is_stepped or link is not None or (name not in REGISTERS and name != "none"):
                return False
    return True


def faults_in_loop(loop, is_alone):
    """The lines in a loop that are at fault; is_alone: `at` is compared with the key or new alone."""
    seen = []
    late = []
    look_through(loop.body, (True, False), seen, late)
    compared = compared_in([loop] + seen)
    if is_alone:
        late.extend([number for number, _ in compared])
    kept = [(row.number, row.said[1]) for row in seen if row.said[0] == "keep"]
    both = [max(number, where) for number, name in compared for where, other in kept if name == other]
    return late + both


def look_through(block, come, seen, late):
    """Goes through rows of a loop, and tells how a way can come behind them.

    To come is a pair: whether some way comes there, and whether one comes there behind a go. The rows that are on
    some way are put into seen, the numbers of those that stand behind a go on some way into late. Not each way is
    gone by itself, as there are too many of them: ifs in loops are not counted.
    """
    for row in block:
        if not come[0]:
            return come
        seen.append(row)
        if come[1]:
            late.append(row.number)
        come = behind_row(row, come, seen, late)
    return come


def behind_row(row, come, seen, late):
    word = row.said[0]
    if word == "go":
        return (True, True)
    if word in ("stop", "quit"):
        return (False, False)
    if word != "if":
        return come
    one = look_through(row.body, come, seen, late)
    other = look_through(row.other, come, seen, late)
    return (one[0] or other[0], one[1] or other[1])


def compared_in(rows):
    """The pairs (number of the line, register) of the registers that rows of a loop compare with `at`."""
    found = []
    for row in rows:
        if row.said[0] == "if" or is_loop(row):
            for _, asked in row.said[1]:
                if asked[0] == "less":
                    names = [name for name in asked[1:] if name in REGISTERS and name != "at"]
                    found.extend([(row.number, name) for name in names])
    return found
