"""The texts of racks."""

from shelfdoors.chains import Chain
from shelfdoors.checks import is_between, is_name, read_number
from shelfdoors.contents import are_items
from shelfdoors.errors import InvalidDocument, InvalidText
from shelfdoors.rack import MAX_LIMIT, filled_rack


def rack_text(rack):
    """Return the text of a rack."""
    lines = [f"rack {rack.limit}"]
    for name in rack.names():
        run = rack.run_of(name)
        lines.append(f"run {name} {run.chain}")
        for segment, at in run.chain.behind(0):
            lines.append(_level_line(run.contents[segment][at]))
    return "".join([f"{line}\n" for line in lines])


def read_rack(text):
    """Return the rack of a text; raise InvalidDocument with the index of the first line that is wrong."""
    pieces = text.split("\n")
    # Every line ends with a line feed, so what stands behind the last one should be nothing.
    lines, rest = pieces[:-1], pieces[-1]
    limit = _read_limit(_line(lines, 0))
    runs = {}
    before = ""
    at = 1
    while at < len(lines):
        name, chain = _read_run(lines[at], at)
        if name <= before or len(runs) == limit:
            raise InvalidDocument(at)
        runs[name] = (chain, _read_contents(chain, lines, at + 1))
        before = name
        at += 1 + len(chain)
    if rest != "":
        raise InvalidDocument(len(lines))
    return filled_rack(limit, runs)


def _level_line(held):
    """Return the line of a level that holds items."""
    return "".join(["level"] + [f" {item}" for item in held])


def _line(lines, at):
    """Return the line at an index; raise InvalidDocument if it is missing or has no line feed."""
    if at >= len(lines):
        raise InvalidDocument(at)
    return lines[at]


def _read_limit(line):
    """Return the limit of the first line."""
    words = line.split(" ")
    limit = read_number(words[-1])
    if len(words) != 2 or words[0] != "rack" or not is_between(limit, 1, MAX_LIMIT):
        raise InvalidDocument(0)
    return limit


def _read_run(line, at):
    """Return the name and the chain of the line of a run at an index."""
    words = line.split(" ")
    if len(words) < 3 or words[0] != "run" or not is_name(words[1]):
        raise InvalidDocument(at)
    text = " ".join(words[2:])
    try:
        return words[1], Chain.read(text)
    except InvalidText:
        raise InvalidDocument(at) from None


def _read_contents(chain, lines, start):
    """Return the contents of a chain whose first level has the line at the index start."""
    rows = []
    at = start
    for row in chain.segments:
        levels = []
        for capacity in row:
            levels.append(_read_level(_line(lines, at), capacity, at))
            at += 1
        rows.append(tuple(levels))
    return tuple(rows)


def _read_level(line, capacity, at):
    """Return the items of the line of a level at an index."""
    words = line.split(" ")
    items = tuple([read_number(word) for word in words[1:]])
    if words[0] != "level" or not are_items(capacity, items):
        raise InvalidDocument(at)
    return items
