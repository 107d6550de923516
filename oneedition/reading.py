"""Reading the text of a keeper (section 17)."""

from oneedition.checks import LAST_TIME, are_bytes, are_copies, are_names, is_copy
from oneedition.errors import BadText
from oneedition.kinds import DIGITS, is_within, is_word
from oneedition.records import Answer, Ask, Site
from oneedition.spans import END, Spans
from oneedition.states import State, picture_of

MOST = 9999999999
STAGES = ("open", "ended", "changed")


def _number_of(word):
    """Return the number that a word shows, None if it shows none."""
    # The word may be very long, so its length is looked at first.
    if not 1 <= len(word) <= 10 or not all([letter in DIGITS for letter in word]):
        return None
    return int(word) if word == "0" or word[0] != "0" else None


def _pair_of(word):
    """Return the two numbers that a word START..STOP shows, each None if it is none."""
    start, _, stop = word.partition("..")
    return _number_of(start), _number_of(stop)


class Reader:
    """Reads lines one after the other; at is the line that is read, and what stands above it is kept."""

    def __init__(self, lines):
        self.lines = lines
        self.at = 0
        self.piece = 0
        self.copies = []
        self.site = None
        self.time = 0
        self.upcoming = 0
        self.asks = {}
        self.told = {}

    def read(self):
        """Read all lines."""
        self.piece = self._number(self._words("piece", 1)[0], 1, 64)
        self.at = self.at + 1
        while self._begins("copy"):
            self._read_copy()
        self._read_time()
        while self._begins("ask"):
            self._read_ask()
        while self._begins("answer"):
            self._read_answer()
        self._need(self.at == len(self.lines))

    def told_answers(self):
        """Return the answers that were read so far."""
        found = {}
        for number in self.told:
            fields = self.told[number]
            found[number] = Answer(**fields)
        return found

    def _need(self, holds):
        """Refuse the line if something does not hold."""
        if not holds:
            raise BadText(self.at)

    def _begins(self, word):
        """Tell whether there is a line that begins with this word."""
        return self.at < len(self.lines) and self.lines[self.at].partition(" ")[0] == word

    def _words(self, word, least, most=None):
        """Return the words behind the first one, which must be this one; least many, or from least to most."""
        self._need(self.at < len(self.lines))
        words = self.lines[self.at].split(" ")
        self._need(words[0] == word and "" not in words)
        self._need(least <= len(words) - 1 <= (least if most is None else most))
        return words[1:]

    def _number(self, word, least, most):
        """Return the number that a word shows, which must be from least to most."""
        number = _number_of(word)
        self._need(is_within(number, least, most))
        return number

    def _read_copy(self):
        """Read a line of a copy."""
        name, word = self._words("copy", 2)
        pair = (name, None if word == "-" else word)
        self._need(is_copy(pair) and len(self.copies) < 6)
        self._need(not self.copies or self.copies[-1][0] < name)
        self.copies.append(pair)
        self.at = self.at + 1

    def _read_time(self):
        """Read the lines of the time and of the next number."""
        time = self._number(self._words("now", 1)[0], 0, MOST)
        self._need(are_copies(tuple(self.copies)))
        self.site = Site(tuple(self.copies), self.piece)
        self.time = time
        self.at = self.at + 1
        self.upcoming = self._number(self._words("next", 1)[0], 0, MOST)
        self.at = self.at + 1

    def _new_number(self, word, before):
        """Return the number of an ask or an answer, which must stand there for the first time, behind those before."""
        number = self._number(word, 0, self.upcoming - 1)
        self._need(number not in self.asks and all([other < number for other in before]))
        return number

    def _spans(self, word):
        """Return the spans that a word shows."""
        if word == "all":
            return None
        pairs = [] if word == "-" else [_pair_of(part) for part in word.split(",")]
        below = -1
        for start, stop in pairs:
            self._need(is_within(start, below + 1, END - 1) and is_within(stop, start + 1, END))
            below = stop
        return Spans(*pairs)

    def _read_ask(self):
        """Read a line of an open ask."""
        word, copy, sent_word, only_word, spans_word = self._words("ask", 5)
        number = self._new_number(word, list(self.asks))
        self._need(copy in self.site.above)
        sent = self._number(sent_word, 1, self.time)
        only = None if only_word == "-" else only_word
        self._need(only is None or is_word(only))
        self.asks[number] = Ask(copy, sent, only, self._spans(spans_word))
        self.at = self.at + 1

    def _read_answer(self):
        """Read the lines of an answer."""
        word, stage = self._words("answer", 2)
        number = self._new_number(word, list(self.told))
        self._need(stage in STAGES)
        fields = {"number": number, "seen": (), "stage": stage}
        self.told[number] = fields
        self.at = self.at + 1
        self._read_place(fields)
        while self._begins("at"):
            self._read_place(fields)
        if stage == "changed":
            self._read_nots(fields)
        else:
            self._read_head(fields)

    def _read_place(self, fields):
        """Read a line of a sighting."""
        copy, first_word, last_word = self._words("at", 3)
        seen = fields["seen"]
        self._need(copy in self.site.above and (not seen or seen[-1][0] < copy))
        first, last = self._number(first_word, 1, self.time), self._number(last_word, 1, LAST_TIME)
        fields["seen"] = seen + ((copy, first, last),)
        self.at = self.at + 1

    def _read_head(self, fields):
        """Read the lines of what an answer with a head told; each of them may be missing."""
        for word in ("mark", "weak"):
            if self._begins(word):
                told = self._words(word, 1)[0]
                self._need(is_word(told))
                fields[word] = told
                self.at = self.at + 1
        if self._begins("length"):
            fields["size"] = self._number(self._words("length", 1)[0], 0, END)
            self.at = self.at + 1
        if self._begins("names"):
            self._read_names(fields)
        if self._begins("not"):
            self._read_nots(fields)
        while self._begins("bytes"):
            self._read_bytes(fields)

    def _read_names(self, fields):
        """Read a line of the names of the pieces."""
        names = tuple(self._words("names", 0, END))
        self._need("size" in fields and are_names(names, fields["size"], self.piece))
        fields["names"] = names
        self.at = self.at + 1

    def _read_nots(self, fields):
        """Read a line of the marks that an edition does not have."""
        nots = self._words("not", 1, END)
        self._need(all([is_word(word) for word in nots]))
        self._need(all([one < other for one, other in zip(nots, nots[1:])]))
        fields["nots"] = tuple(nots)
        self.at = self.at + 1

    def _read_bytes(self, fields):
        """Read a line of bytes."""
        words = self._words("bytes", 2, END + 1)
        runs = fields.get("runs", ())
        below = runs[-1][0] + len(runs[-1][1]) if runs else -1
        start = self._number(words[0], below + 1, END - 1)
        values = tuple([_number_of(word) for word in words[1:]])
        # Whether they fit in the length is a part of whether there is a world.
        self._need(are_bytes(values, start))
        fields["runs"] = runs + ((start, values),)
        self.at = self.at + 1


def _read_lines(lines):
    """Return a reader that read the lines above the first one that cannot stand there, and the number of that line."""
    reader = Reader(lines)
    try:
        reader.read()
    except BadText as error:
        return reader, error.line
    return reader, None


def _fits(reader):
    """Tell whether what was read has a world."""
    return not reader.told or picture_of(reader.site, reader.told_answers()).fits


def _first_unfit(lines):
    """Return the first line with which the lines up to it have no world; all of these lines have none."""
    # More lines never make a world of none, so half of the lines that are in doubt can be left out each time.
    low, high = 0, len(lines)
    while high - low > 1:
        middle = (low + high) // 2
        reader, _ = _read_lines(lines[:middle])
        if _fits(reader):
            low = middle
        else:
            high = middle
    return high - 1


def state_of(text):
    """Return what the keeper has that a text shows."""
    lines = text.split("\n")
    reader, wrong = _read_lines(lines)
    if not _fits(reader):
        raise BadText(_first_unfit(lines[:reader.at]))
    if wrong is not None:
        raise BadText(wrong)
    told = reader.told_answers()
    return State(reader.site, reader.time, reader.upcoming, reader.asks, told, {}, picture_of(reader.site, told))
