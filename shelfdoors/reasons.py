"""Explanations: why each level that a request visits holds its item, or does not."""

from shelfdoors.checks import ANONYMOUS
from shelfdoors.runs import Run


def explanation(chain, requests):
    """Return the explanation of the last request of a list, for a chain that starts empty."""
    run = Run(chain)
    stages = []
    for entry, item in requests:
        stages.append(run.contents)
        run.request(entry, item)
    entry, item, result = run.log()[-1]
    return [_reason(level, item, stages) for level in _visited(chain, entry, result)]


def _visited(chain, entry, result):
    """Return the list of the levels that a request with this result visits."""
    levels = chain.behind(entry)
    if result is None:
        return levels
    return levels[:levels.index(result) + 1]


def _reason(level, item, stages):
    """Return the tuple that explains what a request finds in a level."""
    segment, at = level
    inserted, evicted = _last_stay(level, item, stages)
    if inserted is None:
        return (segment, at, "absent", None, None)
    if evicted is None:
        return (segment, at, "hit", inserted, None)
    return (segment, at, "evicted", inserted, evicted)


def _last_stay(level, item, stages):
    """Return the indexes of the requests that last inserted an item into a level and then evicted it, or None.

    The stages are the contents ahead of each request.
    """
    # Contents do not tell anonymous items apart, and the requested one is none of those before.
    if item == ANONYMOUS:
        return None, None
    segment, at = level
    inserted = evicted = None
    held = False
    for index, contents in enumerate(stages):
        holds = item in contents[segment][at]
        # What differs from the stage before is the work of the request before.
        if holds and not held:
            inserted, evicted = index - 1, None
        if held and not holds:
            evicted = index - 1
        held = holds
    return inserted, evicted
