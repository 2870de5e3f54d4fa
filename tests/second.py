"""A second reading of the document, to compare the program with.

It is as slow and as literal as it can be, and it shares nothing with the
program: instances are objects that refer to each other, and what lives is found
out anew whenever it is asked for.
"""

KINDS = ("behind", "elder", "doubled", "lacking", "more", "astray", "dropped", "reloaded", "crowded")


class Refused(Exception):
    pass


class Being:
    """An instance."""

    def __init__(self, module, edition, word=None):
        self.module, self.edition, self.word = module, edition, word
        self.holds, self.entries = [], []


class World:
    def __init__(self, graph, sources):
        self.graph, self.sources = graph, list(sources)
        self.beings, self.current, self.listeners = [], dict.fromkeys(graph.names), []
        self.carried, self.trace = {}, []

    def edition_of(self, being):
        return dict(self.graph.modules)[being.module][being.edition]

    def living(self):
        found = [being for being in self.current.values() if being] + [listener[0] for listener in self.listeners]
        for being in found:
            for other in [held for _, held in being.holds] + being.entries:
                if other is not None and not any(other is each for each in found):
                    found.append(other)
        return [being for being in self.beings if any(being is each for each in found)]

    def run(self, name):
        edition = self.sources[self.graph.names.index(name)]
        being = Being(name, edition)
        self.beings.append(being)
        self.current[name] = being
        self.trace.append(("run", name))
        if len(self.living()) > self.graph.most:
            raise Refused("instances")
        for other in self.edition_of(being)[0]:
            if self.current[other] is None:
                self.run(other)
        self.rows(being, self.edition_of(being)[1])

    def rows(self, being, rows):
        for row in rows:
            getattr(self, row[0])(being, *row[1:])

    def hold(self, being, slot, module):
        for pair in being.holds:
            if pair[0] == slot:
                pair[1] = self.current[module]
                return
        being.holds.append([slot, self.current[module]])

    def listen(self, being, event, what, kind="listen"):
        self.listeners.append((being, event, kind, what))
        if len(self.listeners) > self.graph.most:
            raise Refused("listeners")

    def listenheld(self, being, event, what):
        self.listen(being, event, what, "listenheld")

    def enter(self, being, module):
        if self.current[module] is not None:
            self.current[module].entries.append(being)
            if len(self.current[module].entries) > self.graph.most:
                raise Refused("entries")

    def cell(self, being, word):
        being.word = self.carried[being.module] if being.module in self.carried else word

    def put_away(self, name, data):
        being = self.current[name]
        for row in self.edition_of(being)[3]:
            if row == ("unlisten",):
                self.listeners = [listener for listener in self.listeners if listener[0] is not being]
            elif row == ("carry",):
                if data == "kept" and being.word is not None:
                    self.carried[name] = being.word
            elif self.current[row[1]] is not None:
                host = self.current[row[1]]
                host.entries = [each for each in host.entries if each is not being]
        self.current[name] = None
        self.trace.append(("away", name))

    def state(self):
        living = self.living()

        def place(being):
            return None if being is None else [each is being for each in living].index(True)

        return (tuple(self.sources),
                tuple([(being.module, being.edition, being.word,
                        tuple([(slot, place(held)) for slot, held in being.holds]),
                        tuple([place(each) for each in being.entries])) for being in living]),
                tuple([place(self.current[name]) for name in self.graph.names]),
                tuple([(place(owner), *rest) for owner, *rest in self.listeners]))


def world_of(graph, state):
    world = World(graph, state[0])
    world.beings = [Being(module, edition, word) for module, edition, word, _, _ in state[1]]
    for being, (_, _, _, holds, entries) in zip(world.beings, state[1]):
        being.holds = [[slot, None if index is None else world.beings[index]] for slot, index in holds]
        being.entries = [world.beings[index] for index in entries]
    for name, index in zip(graph.names, state[2]):
        world.current[name] = None if index is None else world.beings[index]
    world.listeners = [(world.beings[owner], *rest) for owner, *rest in state[3]]
    return world


def fresh(graph, sources):
    world = World(graph, sources)
    world.trace.append(("reload",))
    world.run(graph.top)
    return world.state(), tuple(world.trace)


def importers(graph, state, module):
    world = world_of(graph, state)
    return tuple([name for name in graph.names
                  if world.current[name] and module in world.edition_of(world.current[name])[0]])


def climb(graph, state, module):
    world = world_of(graph, state)
    if world.current[module] is None:
        return ((), (), (), ())

    def accepted(name):
        return [item[0] for item in world.edition_of(world.current[name])[2]]

    outdated, own, accepting, past = [module], [], [], []
    for name in outdated:
        if "self" in accepted(name):
            own.append(name)
        elif name == graph.top or importers(graph, state, name) == ():
            past.append(name)
        else:
            for other in importers(graph, state, name):
                if name in accepted(other):
                    accepting.append((other, name))
                elif other not in outdated:
                    outdated.append(other)
    return tuple(outdated), tuple(own), tuple(accepting), tuple(past)


def step(graph, rule, state, deed):
    """Return (state, calls, trace), or the word of the refusal."""
    try:
        if deed[0] == "edit":
            return edit(graph, rule, state, deed[1], deed[2])
    except Refused as refused:
        return str(refused)
    if deed[0] == "fire":
        return state, calls(graph, state, deed[1]), ()
    if deed[0] == "reload":
        after, trace = fresh(graph, state[0])
        return after, (), trace
    world = world_of(graph, state)
    being = world.current[deed[1]]
    if being is not None and being.word is not None:
        being.word = deed[2]
    return world.state(), (), ()


def edit(graph, rule, state, module, number):
    at = graph.names.index(module)
    if state[0][at] == number:
        return state, (), ()
    world = world_of(graph, state)
    world.sources[at] = number
    outdated, own, accepting, past = climb(graph, state, module)
    if past:
        if rule[1] == "reload":
            after, trace = fresh(graph, world.sources)
            return after, (), trace
        if rule[1] == "stay":
            return world.state(), (), ()
        own = sorted(own + past, key=outdated.index)
    for name in outdated if rule[0] == "near" else reversed(outdated):
        world.put_away(name, rule[2])
    for name in own:
        if world.current[name] is None:
            world.run(name)
    for importer, name in accepting:
        if importer in outdated:
            continue
        if world.current[name] is None:
            world.run(name)
        being = world.current[importer]
        world.rows(being, dict([item for item in world.edition_of(being)[2] if item != ("self",)])[name])
        world.trace.append(("accept", importer, name))
    return world.state(), (), tuple(world.trace)


def calls(graph, state, event):
    world = world_of(graph, state)
    made = []
    for owner, heard, kind, what in world.listeners:
        if heard != event:
            continue
        called = world.current[what] if kind == "listen" else dict(map(tuple, owner.holds)).get(what)
        end = ("", -1, "") if called is None else (called.module, called.edition, called.word or "")
        made.append((owner.module, owner.edition) + end)
    return tuple(made)


def counts(graph, state, module):
    """The listeners by event, kind and name, and the entries by module, of the instances of a module."""
    _, instances, current, listeners = state
    keys = [(event, kind, what) for event in graph.events
            for kind, names in (("listen", graph.names), ("listenheld", [each[3] for each in listeners] + ["h", "k"]))
            for what in names]
    found = {key: len([1 for each in listeners if instances[each[0]][0] == module and each[1:] == key])
             for key in keys}
    for name, index in zip(graph.names, current):
        entries = () if index is None else instances[index][4]
        found[name] = len([1 for entry in entries if instances[entry][0] == module])
    return found


def faults(graph, state):
    start = fresh(graph, state[0])[0]
    found = set()
    for at, name in enumerate(graph.names):
        here, there = state[2][at], start[2][at]
        if here is not None and state[1][here][1] != state[0][at]:
            found.add(("behind", name))
        if [1 for index, each in enumerate(state[1]) if each[0] == name and index != here]:
            found.add(("elder", name))
        mine, fresh_ones = counts(graph, state, name), counts(graph, start, name)
        for key in [*mine, *fresh_ones]:
            if mine.get(key, 0) > fresh_ones.get(key, 0):
                found.add(("doubled", name))
            if mine.get(key, 0) < fresh_ones.get(key, 0):
                found.add(("lacking", name))
        if here is None and there is not None:
            found.add(("lacking", name))
        if here is not None and there is None:
            found.add(("more", name))
        if here is not None and there is not None:
            for slot, index in start[1][there][3]:
                if index is not None and dict(state[1][here][3]).get(slot) is None:
                    found.add(("lacking", name))
    for event in graph.events:
        if (sorted([each[:4] for each in calls(graph, state, event)])
                != sorted([each[:4] for each in calls(graph, start, event)])):
            found.add(("astray", ""))
    return found


def ordered(graph, found):
    return sorted(found, key=lambda fault: (KINDS.index(fault[0]), ("", *graph.names).index(fault[1])))


def judge(graph, rule, state, deed):
    done = step(graph, rule, state, deed)
    if isinstance(done, str):
        return ordered(graph, faults(graph, state) | {("crowded", "")})
    after, _, trace = done
    found = faults(graph, after)
    if deed[0] == "edit" and trace[:1] == (("reload",),):
        found.add(("reloaded", ""))
    if deed[0] in ("edit", "reload"):
        for name, old, new in zip(graph.names, state[2], after[2]):
            words = [None if index is None else whole[1][index][2] for whole, index in ((state, old), (after, new))]
            if None not in words and words[0] != words[1]:
                found.add(("dropped", name))
    return ordered(graph, found)
