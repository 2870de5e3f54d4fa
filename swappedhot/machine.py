"""A program while modules are being run in it.

Inside a machine, the instances are named by numbers in the order of their
births. No number changes and none is used again before the machine is done;
as_state() forgets the instances that are not living and renumbers the others.
"""

from swappedhot.errors import TooMany
from swappedhot.states import reached


class Instance:
    """One run of a module."""

    def __init__(self, module, edition):
        self.module = module
        self.edition = edition
        self.word = None
        # A dict keeps the place of a slot that is held again.
        self.holds = {}
        self.entries = []

    def links(self):
        """Return the numbers of the instances that this one refers to, None among them."""
        return list(self.holds.values()) + self.entries

    def as_tuple(self, indexes):
        """Return the instance of a state, in which each number has become an index."""
        holds = [(slot, indexes[number]) for slot, number in self.holds.items()]
        entries = [indexes[number] for number in self.entries]
        return (self.module, self.edition, self.word, tuple(holds), tuple(entries))


class Machine:
    """A program without instances and listeners, and what is done to it."""

    def __init__(self, graph, sources):
        self.graph = graph
        self.sources = sources
        self.instances = []
        self.current = {name: None for name in graph.names}
        self.listeners = []
        # The words for the cells of modules that are run; a start carries none.
        self.carried = {}

    def run(self, name):
        """Run a module that has no current instance."""
        edition = self.sources[self.graph.names.index(name)]
        imports, body, _, _ = self.graph.editions(name)[edition]
        number = self.give_birth(name, edition)
        for wanted in imports:
            if self.current[wanted] is None:
                self.run(wanted)
        self.do_rows(number, body)

    def give_birth(self, name, edition):
        """Add an instance, make it the current one of its module and return its number."""
        number = len(self.instances)
        self.instances.append(Instance(name, edition))
        self.current[name] = number
        if len(self.living()) > self.graph.most:
            raise TooMany("instances")
        return number

    def living(self):
        """Return the numbers of the living instances in ascending order."""
        roots = list(self.current.values()) + [listener[0] for listener in self.listeners]
        return reached(roots, [instance.links() for instance in self.instances])

    def do_rows(self, number, rows):
        """Do body rows in order for an instance."""
        for row in rows:
            word = row[0]
            if word == "hold":
                self.instances[number].holds[row[1]] = self.current[row[2]]
            elif word == "enter":
                self.enter(number, row[1])
            elif word == "cell":
                self.fill(number, row[1])
            else:
                self.listen(number, row)

    def enter(self, number, name):
        host = self.current[name]
        if host is None:
            return
        entries = self.instances[host].entries
        entries.append(number)
        if len(entries) > self.graph.most:
            raise TooMany("entries")

    def fill(self, number, word):
        instance = self.instances[number]
        instance.word = self.carried.get(instance.module, word)

    def listen(self, number, row):
        kind, event, listened = row
        self.listeners.append((number, event, kind, listened))
        if len(self.listeners) > self.graph.most:
            raise TooMany("listeners")

    def as_state(self):
        """Return the state that the program is in."""
        living = self.living()
        indexes = {None: None}
        for index, number in enumerate(living):
            indexes[number] = index
        instances = [self.instances[number].as_tuple(indexes) for number in living]
        current = [indexes[self.current[name]] for name in self.graph.names]
        listeners = [(indexes[owner], event, kind, listened) for owner, event, kind, listened in self.listeners]
        return (self.sources, tuple(instances), tuple(current), tuple(listeners))
