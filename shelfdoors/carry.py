"""Carrying out programs; rounds that recur are computed."""

from shelfdoors.checks import ANONYMOUS, MAX_ITEM, MAX_REPEATS, check_bound, is_between
from shelfdoors.contents import after_request, empty_contents
from shelfdoors.errors import InvalidEntry, TooManyRounds, TooManySteps
from shelfdoors.programs import check_program

MAX_ROUNDS = 8
MAX_STEPS = 10000


class Outcome:
    """What a program did: the numbers of requests and fetches, and the contents at the end."""

    def __init__(self, made, missed, final):
        self.made = made
        self.missed = missed
        self.final = tuple([tuple([tuple(held) for held in row]) for row in final])

    @property
    def hits(self):
        """The number of hits."""
        return self.made - self.missed

    def __eq__(self, other):
        return (
            isinstance(other, Outcome)
            and self.made == other.made
            and self.missed == other.missed
            and self.final == other.final
        )


class Carrier:
    """Carries out statements, one after another, on a chain that starts empty."""

    def __init__(self, chain):
        self._chain = chain
        self._contents = empty_contents(chain)
        self._made = 0
        self._missed = 0
        self._steps = 0

    def outcome(self):
        """Return the outcome so far."""
        return Outcome(self._made, self._missed, self._contents)

    def carry(self, statements):
        """Carry out statements, of which none is a use."""
        for statement in statements:
            if statement[0] == "repeat":
                self._repeat(statement[1], statement[2])
            else:
                self._make(_requests(statement))

    def _make(self, requests):
        """Make requests, each as a step."""
        for entry, item in requests:
            if self._steps == MAX_STEPS:
                raise TooManySteps(MAX_STEPS)
            self._contents, result = after_request(self._chain, self._contents, entry, item)
            self._steps += 1
            self._made += 1
            if result is None:
                self._missed += 1

    def _repeat(self, many, body):
        """Carry out a body in so many rounds, up to the one behind which the contents recur."""
        # The contents at the beginning and behind each round, and the counts that belong to them.
        met = [self._contents]
        counts = [(self._made, self._missed)]
        for done in range(many):
            if done == MAX_ROUNDS:
                raise TooManyRounds(MAX_ROUNDS)
            self.carry(body)
            if self._contents in met:
                self._compute(many - done - 1, met, counts)
                return
            met.append(self._contents)
            counts.append((self._made, self._missed))

    def _compute(self, rest, met, counts):
        """Do the work of the rest of the rounds, of which those since the same contents were met recur."""
        first = met.index(self._contents)
        turns, more = divmod(rest, len(met) - first)
        made, missed = counts[first]
        made_more, missed_more = counts[first + more]
        self._made += turns * (self._made - made) + made_more - made
        self._missed += turns * (self._missed - missed) + missed_more - missed
        self._contents = met[first + more]


def carry_out(chain, program, *, parts=None):
    """Return the outcome of a program on a chain that starts empty."""
    check_program(chain, program, parts=parts)
    carrier = Carrier(chain)
    carrier.carry(_busy_statements(program, parts, {}))
    return carrier.outcome()


def cyclic_fetches(chain, entry, many, rounds):
    """Return how many items are fetched if the items below many are requested in order, so many rounds."""
    if not is_between(entry, 0, chain.entries - 1):
        raise InvalidEntry(entry)
    check_bound(many, 0, MAX_ITEM + 1)
    check_bound(rounds, 0, MAX_REPEATS)
    capacities = [chain[segment][at] for segment, at in chain.behind(entry)]
    # A level that can hold all these items keeps them; any other one evicts each of them before its turn.
    if many <= max(capacities, default=0):
        return many * min(rounds, 1)
    return many * rounds


def _busy_statements(statements, parts, known):
    """Return the list of the statements that make requests; known holds those of the parts met before.

    The others change nothing, but could take long: a part without requests may be used very often.
    """
    busy = []
    for statement in statements:
        found = _busy_statement(statement, parts, known)
        if found is not None:
            busy.append(found)
    return busy


def _busy_statement(statement, parts, known):
    """Return a statement that makes the requests of a statement and is no use, or None if there are none."""
    match statement:
        case ("fresh", _, 0):
            return None
        case ("repeat", many, body):
            return _busy_repeat(many, _busy_statements(body, parts, known))
        case ("use", part):
            if part not in known:
                known[part] = _busy_statements(parts[part], parts, known)
            return _busy_repeat(1, known[part])
    return statement


def _busy_repeat(many, body):
    """Return the repeat of a body, or None if it makes no requests."""
    if many == 0 or len(body) == 0:
        return None
    return ("repeat", many, body)


def _requests(statement):
    """Return the list of the requests of a statement that is no repeat."""
    match statement:
        case ("sweep", entry, first, last):
            return [(entry, item) for item in range(first, last + 1)]
        case ("fresh", entry, many):
            return [(entry, ANONYMOUS)] * many
    return [statement[1:]]
