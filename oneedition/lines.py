"""The text of a keeper (section 17)."""


def _or_dash(word):
    """Return a word, a dash for None."""
    return "-" if word is None else word


def _spans_word(spans):
    """Return the word for what an ask asks for."""
    if spans is None:
        return "all"
    return ",".join([f"{start}..{stop}" for start, stop in spans.pairs]) if spans.pairs else "-"


def _site_lines(site):
    """Return the lines of the size of a piece and of the copies."""
    copies = [f"copy {name} {_or_dash(followed)}" for name, followed in site.copies]
    return [f"piece {site.piece}"] + copies


def _ask_line(number, ask):
    """Return the line of an open ask."""
    return f"ask {number} {ask.source} {ask.sent} {_or_dash(ask.only)} {_spans_word(ask.spans)}"


def _head_lines(answer):
    """Return the lines of what was told of the edition, but for its bytes."""
    told = [(word, value) for word, value in (("mark", answer.mark), ("weak", answer.weak), ("length", answer.size))
            if value is not None]
    names = [] if answer.names is None else [" ".join(("names",) + answer.names)]
    nots = [" ".join(("not",) + answer.nots)] if answer.nots else []
    return [f"{word} {value}" for word, value in told] + names + nots


def _answer_lines(answer):
    """Return the lines of an answer."""
    seen = [f"at {copy} {first} {last}" for copy, first, last in answer.seen]
    runs = [" ".join(["bytes", str(start)] + [str(byte) for byte in values]) for start, values in answer.runs]
    return [f"answer {answer.number} {answer.stage}"] + seen + _head_lines(answer) + runs


def text_of(state):
    """Return the text of all that a keeper has."""
    lines = _site_lines(state.site) + [f"now {state.time}", f"next {state.upcoming}"]
    asks = [_ask_line(number, state.asks[number]) for number in sorted(state.asks)]
    answers = [line for number in sorted(state.told) for line in _answer_lines(state.told[number])]
    return "\n".join(lines + asks + answers)
