"""Programs of requests: their statements, and their texts."""

from shelfdoors.chains import Chain
from shelfdoors.checks import MAX_REPEATS, is_between, is_item, is_item_or_anonymous, is_name, read_number
from shelfdoors.errors import CircularPart, InvalidProgram, UnknownPart

MAX_STATEMENTS = 40
MAX_DEPTH = 4

_MAX_FRESH = 50


def check_program(chain, program, *, parts=None):
    """Raise the first error of a program that cannot be carried out on a chain."""
    _check(chain.entries, program, {} if parts is None else parts, {})


def program_text(program):
    """Return the text of a program."""
    return "\n".join(_lines(program))


def parse_program(text):
    """Return the program of a text, a list; raise InvalidProgram with the first line that cannot stand there."""
    lines = [] if text == "" else text.split("\n")
    # The statements of each body that is still without its end, behind those of the program itself.
    bodies = [[]]
    rounds = []
    count = 0
    for index, line in enumerate(lines):
        if line == "end" and len(rounds) > 0:
            body = tuple(bodies.pop())
            bodies[-1].append(("repeat", rounds.pop(), body))
            continue
        statement = _read_statement(line)
        if not _may_stand(statement, count, len(rounds), Chain.MAX_SEGMENTS):
            raise InvalidProgram(index)
        count += 1
        if statement[0] == "repeat":
            rounds.append(statement[1])
            bodies.append([])
        else:
            bodies[-1].append(statement)
    if len(rounds) > 0:
        raise InvalidProgram(len(lines))
    return bodies[0]


def _check(entries, program, parts, checked):
    """Raise the first error of a program or part; checked tells of each part met whether it is done."""
    for number, (statement, depth) in enumerate(_numbered(program, 0)):
        if not _may_stand(statement, number, depth, entries):
            raise InvalidProgram(number)
        if statement[0] == "use":
            _check_part(entries, statement[1], parts, checked)


def _check_part(entries, name, parts, checked):
    """Raise the first error of the part with a name, unless it was checked before."""
    if name not in parts:
        raise UnknownPart(name)
    if not checked.get(name, True):
        raise CircularPart(name)
    if name not in checked:
        checked[name] = False
        _check(entries, parts[name], parts, checked)
        checked[name] = True


def _numbered(statements, depth):
    """Yield each statement, in the order of the text, with the number of the repeats around it."""
    for statement in statements:
        yield (statement, depth)
        # Whoever iterates has checked the statement by now.
        if statement[0] == "repeat":
            yield from _numbered(statement[2], depth + 1)


def _may_stand(statement, number, depth, entries):
    """Tell whether a value can stand in a program with this number, inside of so many repeats."""
    if number >= MAX_STATEMENTS or not _is_statement(statement, entries):
        return False
    return statement[0] != "repeat" or depth < MAX_DEPTH


def _is_statement(value, entries):
    """Tell whether a value is a statement for a chain with so many entries."""
    if not isinstance(value, tuple):
        return False
    match value:
        case ("ask", entry, item):
            return is_between(entry, 0, entries - 1) and is_item_or_anonymous(item)
        case ("sweep", entry, first, last):
            return is_between(entry, 0, entries - 1) and is_item(first) and is_item(last) and first <= last
        case ("fresh", entry, many):
            return is_between(entry, 0, entries - 1) and is_between(many, 0, _MAX_FRESH)
        case ("repeat", many, body):
            return is_between(many, 0, MAX_REPEATS) and isinstance(body, (list, tuple))
        case ("use", part):
            return is_name(part)
    return False


def _lines(statements):
    """Return the list of the lines of statements."""
    lines = []
    for statement in statements:
        if statement[0] == "repeat":
            lines.append(f"repeat {statement[1]}")
            lines.extend(_lines(statement[2]))
            lines.append("end")
        else:
            lines.append(" ".join([str(value) for value in statement]))
    return lines


def _read_statement(line):
    """Return what a line stands for, with an empty body for a repeat; it may be no statement."""
    words = line.split(" ")
    if words[0] == "use":
        return tuple(words)
    numbers = tuple([read_number(word) for word in words[1:]])
    if words[0] == "repeat":
        return ("repeat", *numbers, ())
    return (words[0], *numbers)
