"""A program while modules are being run and put away in it.

Inside a machine, the instances are named by numbers in the order of their
births. No number changes and none is used again before the machine is done;
as_state() forgets the instances that are not living and renumbers the others.
"""

from swappedhot.errors import TooMany
from swappedhot.plain import position
from swappedhot.states import reached


class Instance:
    """One run of a module."""

    def __init__(self, module, edition, word, holds, entries):
        self.module = module
        self.edition = edition
        self.word = word
        # A dict keeps the place of a slot that is held again.
        self.holds = dict(holds)
        self.entries = list(entries)

    def links(self):
        """Return the numbers of the instances that this one refers to, None among them."""
        return list(self.holds.values()) + self.entries

    def as_tuple(self, indexes):
        """Return the instance of a state, in which each number has become an index."""
        holds = [(slot, indexes[number]) for slot, number in self.holds.items()]
        entries = [indexes[number] for number in self.entries]
        return (self.module, self.edition, self.word, tuple(holds), tuple(entries))


class Machine:
    """A program without instances and listeners, and what is done to it."""

    def __init__(self, graph, sources):
        self.graph = graph
        self.sources = sources
        self.instances = []
        self.current = {name: None for name in graph.names}
        self.listeners = []
        # The words for the cells of modules that are run; a start carries none.
        self.carried = {}
        # What has happened, as the trace of a step tells it.
        self.trace = []

    def resume(self, state):
        """Take over what lives in a state, but not its sources."""
        _, instances, current, listeners = state
        self.instances = [Instance(*parts) for parts in instances]
        self.current = {name: index for name, index in zip(self.graph.names, current)}
        self.listeners = list(listeners)

    def run(self, name):
        """Run a module that has no current instance."""
        edition = self.sources[position(self.graph.names, name)]
        imports, body, _, _ = self.graph.editions(name)[edition]
        number = self.give_birth(name, edition)
        for wanted in imports:
            self.run_if_none(wanted)
        self.do_rows(number, body)

    def run_if_none(self, name):
        if self.current[name] is None:
            self.run(name)

    def give_birth(self, name, edition):
        """Add an instance, make it the current one of its module and return its number."""
        number = len(self.instances)
        self.instances.append(Instance(name, edition, None, (), ()))
        self.current[name] = number
        self.trace.append(("run", name))
        if len(self.living()) > self.graph.most:
            raise TooMany("instances")
        return number

    def living(self):
        """Return the numbers of the living instances in ascending order."""
        roots = list(self.current.values()) + [listener[0] for listener in self.listeners]
        return reached(roots, [instance.links() for instance in self.instances])

    def do_rows(self, number, rows):
        """Do body rows in order for an instance."""
        for row in rows:
            word = row[0]
            if word == "hold":
                self.instances[number].holds[row[1]] = self.current[row[2]]
            elif word == "enter":
                self.enter(number, row[1])
            elif word == "cell":
                self.fill(number, row[1])
            else:
                self.listen(number, row)

    def enter(self, number, name):
        host = self.current[name]
        if host is None:
            return
        entries = self.instances[host].entries
        entries.append(number)
        if len(entries) > self.graph.most:
            raise TooMany("entries")

    def fill(self, number, word):
        instance = self.instances[number]
        instance.word = self.carried.get(instance.module, word)

    def listen(self, number, row):
        kind, event, listened = row
        self.listeners.append((number, event, kind, listened))
        if len(self.listeners) > self.graph.most:
            raise TooMany("listeners")

    def put_away(self, name, keeps_data):
        """Clean up behind the current instance of a module, which then has none any more."""
        number = self.current[name]
        cleanup = self.graph.editions(name)[self.instances[number].edition][3]
        for row in cleanup:
            if row[0] == "unlisten":
                self.listeners = [listener for listener in self.listeners if listener[0] != number]
            elif row[0] == "leave":
                self.leave(number, row[1])
            elif keeps_data:
                self.carry(number)
        self.current[name] = None
        self.trace.append(("away", name))

    def leave(self, number, name):
        host = self.current[name]
        if host is not None:
            instance = self.instances[host]
            instance.entries = [entry for entry in instance.entries if entry != number]

    def carry(self, number):
        instance = self.instances[number]
        if instance.word is not None:
            self.carried[instance.module] = instance.word

    def accept(self, importer, name):
        """Do the rows with which a module accepts the replacement of an import."""
        number = self.current[importer]
        accepts = self.graph.editions(importer)[self.instances[number].edition][2]
        for item in accepts:
            if item[0] == name:
                self.do_rows(number, item[1])
        self.trace.append(("accept", importer, name))

    def as_state(self):
        """Return the state that the program is in."""
        living = self.living()
        indexes = {None: None}
        for index, number in enumerate(living):
            indexes[number] = index
        instances = [self.instances[number].as_tuple(indexes) for number in living]
        current = [indexes[self.current[name]] for name in self.graph.names]
        listeners = [(indexes[owner], event, kind, listened) for owner, event, kind, listened in self.listeners]
        return (self.sources, tuple(instances), tuple(current), tuple(listeners))
