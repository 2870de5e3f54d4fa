"""The errors of the program.

Where an error may be given any value, it keeps a copy: lists that are passed
may be changed later, and the error must go on telling what was wrong then.
"""

from swappedhot.plain import copied


class SwapError(ValueError):
    """The base class of all errors of the program."""


class InvalidGraph(SwapError):
    def __init__(self, part, path):
        SwapError.__init__(self, f"the graph is wrong in {part} at {path}")
        self.part = part
        self.path = path


class InvalidRule(SwapError):
    def __init__(self, path):
        SwapError.__init__(self, f"the rule is wrong at {path}")
        self.path = path


class InvalidSources(SwapError):
    def __init__(self, sources):
        SwapError.__init__(self, "the value is not sources of the graph")
        self.sources = copied(sources)


class NoModule(SwapError):
    def __init__(self, name):
        SwapError.__init__(self, "the graph has no module of this name")
        self.name = copied(name)


class BadDeed(SwapError):
    def __init__(self, deed):
        SwapError.__init__(self, "the value is not a deed of the graph")
        self.deed = copied(deed)


class TooMany(SwapError):
    def __init__(self, what):
        SwapError.__init__(self, f"the deed leads to too many {what}")
        self.what = what


class NotAState(SwapError):
    def __init__(self):
        SwapError.__init__(self, "the value is not a state of the graph")


class NothingToUndo(SwapError):
    def __init__(self):
        SwapError.__init__(self, "no deed is left to be undone")


class BatchRefused(SwapError):
    def __init__(self, index):
        SwapError.__init__(self, f"the deed at position {index} cannot be done")
        self.index = index


class BadLimit(SwapError):
    def __init__(self, limit):
        SwapError.__init__(self, "the limit is not an integer of at least 1")
        self.limit = copied(limit)


class TooManyStates(SwapError):
    def __init__(self, limit):
        SwapError.__init__(self, f"there are more than {limit} states")
        self.limit = limit


class BadFault(SwapError):
    def __init__(self, fault):
        SwapError.__init__(self, "the value is not a fault of the graph")
        self.fault = copied(fault)


class BadKinds(SwapError):
    def __init__(self, kinds):
        SwapError.__init__(self, "the value is not a tuple of distinct kinds of faults")
        self.kinds = copied(kinds)


class BadLength(SwapError):
    def __init__(self, length):
        SwapError.__init__(self, "the length is not an integer from 0 to 100")
        self.length = copied(length)


class BadChoice(SwapError):
    def __init__(self, index):
        SwapError.__init__(self, f"the choices are wrong at {index}")
        self.index = index


class NoPlace(SwapError):
    def __init__(self, place):
        SwapError.__init__(self, "the graph has no such cleanup row")
        self.place = copied(place)


class InvalidText(SwapError):
    def __init__(self, line):
        SwapError.__init__(self, f"line {line} cannot stand where it stands")
        self.line = line


class DeskRefused(SwapError):
    def __init__(self, index):
        SwapError.__init__(self, f"the line at position {index} is unknown or refused")
        self.index = index
