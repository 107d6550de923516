"""What is known of editions (section 11, and rule 4 of section 7)."""

from oneedition.runs import byte_at, cut, joined, spans_of
from oneedition.spans import END, Spans
from oneedition.steps import members


class Content:
    """What is known of one edition; None, or nothing in it, is what is not known."""

    def __init__(self, mark, weak, size, names, nots, runs):
        self.mark = mark
        self.weak = weak
        self.size = size
        self.names = names
        self.nots = nots
        self.runs = runs


def _told(values):
    """Return the different ones of these values that are not None."""
    found = []
    for value in values:
        if value is not None and value not in found:
            found.append(value)
    return found


def union(parts):
    """Return what these answers or contents tell if they have one edition; None if they cannot have one."""
    marks, weaks = _told([part.mark for part in parts]), _told([part.weak for part in parts])
    sizes, names = _told([part.size for part in parts]), _told([part.names for part in parts])
    if max([len(words) for words in (marks, weaks, sizes, names)]) > 1:
        return None
    mark, weak, size, word_row = [words[0] if words else None for words in (marks, weaks, sizes, names)]
    nots = tuple(sorted({word for part in parts for word in part.nots}))
    runs = joined([run for part in parts for run in part.runs])
    if runs is None or mark in nots:
        return None
    if size is not None and runs and size < runs[-1][0] + len(runs[-1][1]):
        return None
    return Content(mark, weak, size, word_row, nots, runs)


def _pieces_fit(one, other, piece):
    """Tell whether the pieces with the same names have the same lengths in two editions."""
    if one.names is None or other.names is None:
        return True
    # Only the last piece of the shorter one can be shorter than in the other one.
    last = min(len(one.names), len(other.names)) - 1
    if last < 0 or one.names[last] != other.names[last]:
        return True
    stop = (last + 1) * piece
    return min(stop, one.size) == min(stop, other.size)


def _named_runs(contents, piece):
    """Return, for each pair of a piece and its name, the runs that editions with this name told there."""
    found = {}
    for content in contents:
        if content.names is None:
            continue
        for start, values in content.runs:
            for place in range(start // piece, (start + len(values) - 1) // piece + 1):
                part = cut(((start, values),), place * piece, (place + 1) * piece)
                found.setdefault((place, content.names[place]), []).extend(part)
    return {key: joined(found[key]) for key in found}


def _with_named(content, table):
    """Return the content with the bytes that the names of its pieces tell."""
    if content.names is None:
        return content
    many = len(content.names)
    named = [run for place, name in table if place < many and content.names[place] == name
             for run in table[(place, name)]]
    runs = joined(list(content.runs) + named)
    return Content(content.mark, content.weak, content.size, content.names, content.nots, runs)


def contents_of(editions, piece):
    """Return what is known of each edition, given the answers of each; None if rule 4 does not hold for them."""
    told = [union(rows) for rows in editions]
    if any([content is None for content in told]):
        return None
    for place, one in enumerate(told):
        if not all([_pieces_fit(one, other, piece) for other in told[:place]]):
            return None
    table = _named_runs(told, piece)
    if any([table[key] is None for key in table]):
        return None
    return [_with_named(content, table) for content in told]


def is_all_known(content):
    """Tell whether the length and all bytes are known."""
    # No byte stands behind the length, and None is no number of bytes.
    return len(spans_of(content.runs)) == content.size


def name_at(content, position, piece):
    """Return the name of the piece with this position, None if it is not told."""
    place = position // piece
    if content.names is None or place >= len(content.names):
        return None
    return content.names[place]


def _tellers(picture, place, position):
    """Return the places of the answers of an answer's group that told the byte at this position."""
    group = members(picture.steps.group(place))
    return [other for other in group if byte_at(picture.rows[other].runs, position) is not None]


def ground_of(picture, place, position):
    """Return why the byte at this position is known of an answer's edition, None if it is not known."""
    rows, piece = picture.rows, picture.site.piece
    own = _tellers(picture, place, position)
    if own:
        return (rows[own[0]].number,)
    for namer in members(picture.steps.group(place)):
        name = name_at(rows[namer], position, piece)
        if name is None:
            continue
        for other in range(len(rows)):
            if name_at(rows[other], position, piece) == name:
                told = _tellers(picture, other, position)
                if told:
                    return rows[namer].number, rows[other].number, rows[told[0]].number
    return None


def is_ground(picture, place, position, numbers):
    """Tell whether these numbers of answers, one or three, are why the byte is known of an answer's edition."""
    rows, piece = picture.rows, picture.site.piece
    told = picture.place[numbers[-1]]
    if len(numbers) == 1:
        return told in _tellers(picture, place, position)
    namer, other = picture.place[numbers[0]], picture.place[numbers[1]]
    name = name_at(rows[namer], position, piece)
    return (name is not None and namer in members(picture.steps.group(place))
            and name_at(rows[other], position, piece) == name and told in _tellers(picture, other, position))


def wanted(content, spans):
    """Return the positions of spans without those from the length of an edition on, if it is known."""
    if content.size is None or content.size == END:
        return spans
    return spans - Spans((content.size, END))
