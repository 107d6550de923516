"""Bytes at positions, kept as runs: pairs (start, values) of a position and the tuple of bytes from there on."""

from oneedition.spans import Spans


def joined(runs):
    """Return the longest runs of all these bytes, ascending; None if two different bytes are at one position."""
    found = []
    for start, values in sorted(runs):
        begin, before = found[-1] if found else (start, ())
        if not found or begin + len(before) < start:
            found.append((start, values))
            continue
        again = before[start - begin:start - begin + len(values)]
        if again != values[:len(again)]:
            return None
        found[-1] = (begin, before + values[len(again):])
    return tuple(found)


def cut(runs, start, stop):
    """Return the runs of the bytes at the positions from start up to, not including, stop."""
    found = []
    for begin, values in runs:
        low, high = max(begin, start), min(begin + len(values), stop)
        if low < high:
            found.append((low, values[low - begin:high - begin]))
    return tuple(found)


def cut_to(runs, spans):
    """Return the runs of the bytes at the positions of spans."""
    return tuple([run for start, stop in spans.pairs for run in cut(runs, start, stop)])


def spans_of(runs):
    """Return the Spans of the positions of these runs."""
    pairs = [(start, start + len(values)) for start, values in runs]
    return Spans(*pairs)


def byte_at(runs, position):
    """Return the byte at this position, None if there is none."""
    for start, values in runs:
        if start <= position < start + len(values):
            return values[position - start]
    return None


def bytes_until_gap(runs, spans):
    """Return the bytes at the positions of spans up to the first one without a byte, and the position behind them.

    The position is None if there are no such bytes.
    """
    found = []
    behind = None
    for start, stop in spans.pairs:
        pieces = cut(runs, start, stop)
        if not pieces or pieces[0][0] != start:
            break
        found.extend(pieces[0][1])
        behind = start + len(pieces[0][1])
        if behind < stop:
            break
    return tuple(found), behind
