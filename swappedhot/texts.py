"""Graphs and deeds as texts."""

from swappedhot.errors import InvalidText
from swappedhot.graphs import Graph
from swappedhot.plain import is_name

DIGITS = "0123456789"

# The lines by their first words: the kind of the line, and how many names follow.
FORMS = {
    "top": ("top", 1),
    "module": ("module", 1),
    "edition": ("edition", 0),
    "import": ("import", 1),
    "hold": ("body", 2),
    "listen": ("body", 2),
    "listenheld": ("body", 2),
    "enter": ("body", 1),
    "cell": ("body", 1),
    "accept": ("accept", 1),
    "unlisten": ("cleanup", 0),
    "leave": ("cleanup", 1),
    "carry": ("cleanup", 0),
}

# What a line of each kind may stand behind; "" is the beginning of the text.
# The kind "self" is a line that accepts the edition itself, "row" a row of an accepts item.
BEFORE = {
    "words": ("",),
    "events": ("words",),
    "most": ("events",),
    "top": ("most",),
    "module": ("top", "module", "edition", "import", "body", "self", "accept", "row", "cleanup"),
    "edition": ("module", "edition", "import", "body", "self", "accept", "row", "cleanup"),
    "import": ("edition", "import"),
    "body": ("edition", "import", "body"),
    "self": ("edition", "import", "body", "self", "accept", "row"),
    "accept": ("edition", "import", "body", "self", "accept", "row"),
    "row": ("accept", "row"),
    "cleanup": ("edition", "import", "body", "self", "accept", "row", "cleanup"),
}

# The deeds by their first words: the kinds of the parts that follow.
DEEDS = {
    "edit": ("name", "digit"),
    "fire": ("name",),
    "set": ("name", "name"),
    "reload": (),
}


def write_graph(graph):
    """Return the text of a graph."""
    lines = [" ".join(("words",) + graph.words), " ".join(("events",) + graph.events)]
    lines += [f"most {graph.most}", f"top {graph.top}"]
    for name, editions in graph.modules:
        lines.append(f"module {name}")
        for edition in editions:
            lines += lines_of(edition)
    return "\n".join(lines)


def lines_of(edition):
    imports, body, accepts, cleanup = edition
    lines = ["edition"] + [f"import {name}" for name in imports] + [" ".join(row) for row in body]
    for item in accepts:
        lines.append(f"accept {item[0]}")
        if item != ("self",):
            lines += [" " + " ".join(row) for row in item[1]]
    return lines + [" ".join(row) for row in cleanup]


def read_graph(text):
    """Return the graph of a text."""
    lines = text.split("\n")
    draft = Draft()
    before = ""
    for index, line in enumerate(lines):
        kind = kind_of(line)
        if before not in BEFORE.get(kind, ()):
            raise InvalidText(index + 1)
        draft.take(kind, line.lstrip(" ").split(" "))
        before = kind
    if len(lines) < 5:
        raise InvalidText(len(lines) + 1)
    return draft.as_graph()


def kind_of(line):
    """Return the kind of a line in the text of a graph, or "none" if it has none of the forms."""
    word, *rest = line.split(" ")
    if word == "":
        return "row" if is_row(rest) else "none"
    if word == "most":
        return "most" if len(rest) == 1 and is_digit(rest[0]) else "none"
    if not all([is_name(part) for part in rest]):
        return "none"
    if word in ("words", "events"):
        return word
    kind, many = FORMS.get(word, ("none", 0))
    if many != len(rest):
        return "none"
    return "self" if kind == "accept" and rest[0] == "self" else kind


def is_row(parts):
    """Tell whether the parts of a line behind its first space are a row of an accepts item."""
    if not parts or parts[0] not in ("hold", "listen", "listenheld", "enter"):
        return False
    return len(parts) - 1 == FORMS[parts[0]][1] and all([is_name(part) for part in parts[1:]])


def is_digit(part):
    return len(part) == 1 and part in DIGITS


class Draft:
    """The parts of a graph while its text is read."""

    def __init__(self):
        self.words = ()
        self.events = ()
        self.most = 0
        self.top = ""
        # Pairs (name, list of editions), as more editions may follow. An edition is a tuple of four lists
        # for the same reason, and an item of its accepts a pair (name, list of rows).
        self.modules = []

    def take(self, kind, parts):
        """Add what a line says that can stand where it stands."""
        if kind == "words":
            self.words = tuple(parts[1:])
        elif kind == "events":
            self.events = tuple(parts[1:])
        elif kind == "most":
            self.most = int(parts[1])
        elif kind == "top":
            self.top = parts[1]
        elif kind == "module":
            self.modules.append((parts[1], []))
        elif kind == "edition":
            self.modules[-1][1].append(([], [], [], []))
        else:
            add_line(self.modules[-1][1][-1], kind, parts)

    def as_graph(self):
        modules = [(name, tuple([finished(edition) for edition in editions])) for name, editions in self.modules]
        return Graph(self.words, self.events, tuple(modules), self.top, most=self.most)


def add_line(edition, kind, parts):
    """Add what a line says to the four lists of an edition."""
    imports, body, accepts, cleanup = edition
    if kind == "import":
        imports.append(parts[1])
    elif kind == "body":
        body.append(tuple(parts))
    elif kind == "row":
        accepts[-1][1].append(tuple(parts))
    elif kind == "cleanup":
        cleanup.append(tuple(parts))
    else:
        accepts.append((parts[1], []))


def finished(edition):
    """Return an edition as it stands in a graph."""
    imports, body, accepts, cleanup = edition
    # No module is called "self", so the name tells the two kinds of items apart.
    items = [("self",) if name == "self" else (name, tuple(rows)) for name, rows in accepts]
    return (tuple(imports), tuple(body), tuple(items), tuple(cleanup))


def write_deeds(deeds):
    """Return the text of a tuple or list of deeds."""
    return "\n".join([write_deed(deed) for deed in deeds])


def write_deed(deed):
    return " ".join([str(part) for part in deed])


def read_deeds(text):
    """Return the tuple of the deeds of a text."""
    if text == "":
        return ()
    deeds = []
    for index, line in enumerate(text.split("\n")):
        deed = read_deed(line)
        if deed is None:
            raise InvalidText(index + 1)
        deeds.append(deed)
    return tuple(deeds)


def read_deed(line):
    """Return the deed of a line, or None if the line has none of the forms."""
    word, *rest = line.split(" ")
    kinds = DEEDS.get(word)
    if kinds is None or len(kinds) != len(rest):
        return None
    for kind, part in zip(kinds, rest):
        if not (is_name(part) if kind == "name" else is_digit(part)):
            return None
    return (word,) + tuple([part if kind == "name" else int(part) for kind, part in zip(kinds, rest)])
