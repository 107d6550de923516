"""The errors of the package. Each keeps what it is given, and any value may be given."""

# The messages do not show what was given: Python refuses to write out a very long integer.


class KeeperError(ValueError):
    """Any error that the package raises on purpose."""


class BadSpans(KeeperError):
    """The value is no Spans, or these are no pairs of which Spans can be made."""

    def __init__(self, value):
        KeeperError.__init__(self, "these are no spans")
        self.value = value


class BadCopies(KeeperError):
    """The value is no tuple of copies as a keeper needs it."""

    def __init__(self, value):
        KeeperError.__init__(self, "these are no copies of a file")
        self.value = value


class BadPiece(KeeperError):
    """The value is no size of a piece."""

    def __init__(self, value):
        KeeperError.__init__(self, "this is no size of a piece")
        self.value = value


class BadCount(KeeperError):
    """The value is no number of moments to wait."""

    def __init__(self, value):
        KeeperError.__init__(self, "this is no number of moments to wait")
        self.value = value


class BadWord(KeeperError):
    """The value is no mark or weak mark that can stand there."""

    def __init__(self, value):
        KeeperError.__init__(self, "this is no word that can stand here")
        self.value = value


class BadLength(KeeperError):
    """The value is no length of an edition."""

    def __init__(self, value):
        KeeperError.__init__(self, "this is no length of an edition")
        self.value = value


class BadTime(KeeperError):
    """The value is no time until which a copy can promise something."""

    def __init__(self, value):
        KeeperError.__init__(self, "this is no time of a promise")
        self.value = value


class BadNames(KeeperError):
    """The value is no tuple with a word for each piece."""

    def __init__(self, value):
        KeeperError.__init__(self, "these are no names of the pieces")
        self.value = value


class BadStart(KeeperError):
    """The value is no position at which a part can start."""

    def __init__(self, value):
        KeeperError.__init__(self, "this is no position of a part")
        self.value = value


class BadBytes(KeeperError):
    """The value is no tuple of bytes, or does not fit behind its start."""

    def __init__(self, value):
        KeeperError.__init__(self, "these are no bytes of a part")
        self.value = value


class BadText(KeeperError):
    """This line of a text cannot stand there."""

    def __init__(self, line):
        KeeperError.__init__(self, "a line of the text cannot stand there")
        self.line = line


class NoCopy(KeeperError):
    """The value is no name of a copy."""

    def __init__(self, value):
        KeeperError.__init__(self, "this is no name of a copy")
        self.value = value


class NoAsk(KeeperError):
    """The value is no number of an open ask."""

    def __init__(self, value):
        KeeperError.__init__(self, "this is no number of an open ask")
        self.value = value


class NoMark(KeeperError):
    """This ask was sent without a mark."""

    def __init__(self, number):
        KeeperError.__init__(self, "this ask was sent without a mark")
        self.number = number


class NoAnswer(KeeperError):
    """The value is no number of an answer."""

    def __init__(self, value):
        KeeperError.__init__(self, "this is no number of an answer")
        self.value = value


class NoHead(KeeperError):
    """The value is no number of an answer with a head."""

    def __init__(self, value):
        KeeperError.__init__(self, "this is no number of an answer with a head")
        self.value = value


class NoWord(KeeperError):
    """The value is none of the words that compare two answers."""

    def __init__(self, value):
        KeeperError.__init__(self, "this is no word that compares two answers")
        self.value = value


class Ended(KeeperError):
    """The end of this answer came already."""

    def __init__(self, number):
        KeeperError.__init__(self, "the end of this answer came already")
        self.number = number


class Flowing(KeeperError):
    """The end of this answer did not come yet."""

    def __init__(self, number):
        KeeperError.__init__(self, "the end of this answer did not come yet")
        self.number = number


class Contradiction(KeeperError):
    """These answers cannot be true together."""

    def __init__(self, numbers):
        KeeperError.__init__(self, "these answers cannot be true together")
        self.numbers = numbers


class NotYet(KeeperError):
    """The order has no offer yet."""

    def __init__(self):
        KeeperError.__init__(self, "there is no offer yet")


class Broken(KeeperError):
    """A byte of this stream's edition cannot become known any more."""

    def __init__(self, number):
        KeeperError.__init__(self, "the next byte cannot become known any more")
        self.number = number


class Closed(KeeperError):
    """The order is closed."""

    def __init__(self):
        KeeperError.__init__(self, "the order is closed")


class TooMany(KeeperError):
    """There are as many trials within each other as there may be."""

    def __init__(self, limit):
        KeeperError.__init__(self, "there are too many trials within each other")
        self.limit = limit
