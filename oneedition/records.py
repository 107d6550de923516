"""What a keeper has: its copies, its open asks and its answers. None of these objects is changed once it is made."""


def above_of(copies):
    """Return, for each copy, the tuple of the copies that it is under: itself, the one that it follows, and so on."""
    followed = dict(copies)
    found = {}
    for name, _ in copies:
        above = [name]
        while followed[above[-1]] is not None:
            above.append(followed[above[-1]])
        found[name] = tuple(above)
    return found


class Site:
    """The copies and the size of a piece."""

    def __init__(self, copies, piece):
        self.copies = copies
        self.piece = piece
        self.above = above_of(copies)


class Ask:
    """An open ask: the copy that it was sent to, when, the mark that it asks for or None, and Spans or None."""

    def __init__(self, source, sent, only, spans):
        self.source = source
        self.sent = sent
        self.only = only
        self.spans = spans


class Answer:
    """An answer with all that it told; seen are its sightings, and stage is "open", "ended" or "changed"."""

    def __init__(self, number, seen, stage, mark=None, weak=None, size=None, names=None, nots=(), runs=()):
        self.number = number
        self.seen = seen
        self.stage = stage
        self.mark = mark
        self.weak = weak
        self.size = size
        self.names = names
        self.nots = nots
        self.runs = runs


def with_runs(answer, runs):
    """Return this answer as if it had told these bytes and no others."""
    return Answer(answer.number, answer.seen, answer.stage, answer.mark, answer.weak, answer.size, answer.names,
                  answer.nots, runs)


def with_stage(answer, stage):
    """Return this answer in another stage."""
    return Answer(answer.number, answer.seen, stage, answer.mark, answer.weak, answer.size, answer.names,
                  answer.nots, answer.runs)
