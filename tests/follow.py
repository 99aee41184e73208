"""All runs of a program up to some depth, one thing followed in them, from the document alone.

It steps with tests.reference, and shares no code with the package but Program.
"""

from tests.reference import Reference

LANDINGS = ("jump", "break", "within")


class Moment:
    """A moment of a run: a Reference, the number of the followed thing (or None), and how its calls began.

    begins has for each call the tuple (entry, what was seen of the cells then).
    """

    def __init__(self, run, thing, nothing):
        self.run = run
        self.thing = thing
        self.nothing = nothing
        self.begins = []
        self.begins.append((self.entry(), self.seen()))

    def behind(self, run, thing):
        """The Moment at which a step of this one leads."""
        other = Moment.__new__(Moment)
        other.run, other.thing, other.nothing = run, thing, self.nothing
        other.begins = self.begins[:len(run.calls)]
        if len(run.calls) > len(self.begins):
            other.begins.append((other.entry(), other.seen()))
        return other

    def has(self, worth):
        """Whether what a name holds, or a saved one, is it."""
        return worth is None if self.nothing else worth is not None and worth == self.thing

    def word(self):
        if self.nothing:
            return "nothing"
        return "new" if self.thing is None else self.run.things[self.thing]

    def having(self, held):
        return tuple(sorted(name for name, worth in held.items() if self.has(worth)))

    def seen(self):
        """What the cells tell, ascending, with those of the saved ones alone that are it."""
        found = []
        for _, told in sorted(self.run.cells.items()):
            found.append(told[:2] + (self.having(told[2]),) if isinstance(told, tuple) else told)
        return found

    def told(self, seen, ahead, index):
        """Items of a call with this index, as it stands or is over, for what is seen, in its words."""
        found = []
        for one in seen:
            if one is None:
                found.append(("nothing",))
            elif one == "ended" or one[0] > index:
                found.append(("ended",))
            elif one[0] == index:
                found.append(("mine",) + one[1:])
            else:
                found.append(("outer", min(k for k, was in enumerate(ahead) if was == one)))
        return tuple(found)

    def entry(self):
        """The entry of the call at work, just begun."""
        call = self.run.calls[-1]
        seen = self.seen()
        passed = tuple(at for at, name in enumerate(self.run.functions[call["function"]][0])
                       if self.has(call["held"][name]))
        outside = not self.nothing and any(self.having(one["held"]) for one in self.run.calls[:-1])
        return (self.word(), passed, outside, self.told(seen, seen, len(self.run.calls) - 1), self.run.armed or "")

    def row(self):
        call = self.run.calls[-1]
        entry, ahead = self.begins[-1]
        told = self.told(self.seen(), ahead, len(self.run.calls) - 1)
        return (call["function"], entry, call["address"],
                (self.word(), self.having(call["held"]), told, self.run.armed or ""))

    def key(self):
        """All on which it hangs how the run goes on for the followed thing."""
        calls = tuple((call["function"], call["address"], self.having(call["held"])) for call in self.run.calls)
        return (self.word(), calls, tuple(self.seen()), self.run.armed,
                tuple((entry, tuple(seen)) for entry, seen in self.begins))


class Follow:
    """What all runs of at most so many steps show; each found thing with the fewest steps to it.

    rows, entries, outcomes and faults are dicts to the fewest steps; landings is a list of the
    tuples (function, what names hold, saved ones, h, has-tests, other holders); whole is whether no run
    was left to go on.
    """

    def __init__(self, program, depth, *, plain=False, nothing=False, most=3000):
        self.rows, self.entries, self.outcomes, self.faults = {}, {}, {}, {}
        self.landings = []
        first = Moment(Reference(program), None, nothing)
        level, seen = [first], {first.key()}
        self.entries[("main", first.begins[0][0])] = 0
        for steps in range(depth + 1):
            self.depth = steps
            following = []
            for moment in level:
                self.rows.setdefault(moment.row(), steps)
                for other in self.steps(moment, steps + 1, plain):
                    if other.key() not in seen:
                        seen.add(other.key())
                        following.append(other)
            level = following
            if not level or len(seen) > most:
                break
        # What comes behind the last level is not looked at, nor are its faults compared.
        self.whole = not level

    def steps(self, moment, steps, plain):
        """The Moments behind the steps of one, faults of the followed thing left out."""
        found = []
        for data in moment.run.wanted():
            if plain and data[0] in LANDINGS and data[1] != ():
                continue
            ahead = moment.run
            run = ahead.copied()
            run.step(data)
            things = [moment.thing]
            if moment.thing is None and not moment.nothing and len(run.things) > len(ahead.things):
                things.append(len(ahead.things))
            for thing in things:
                found.extend(self.stepped(moment, run, thing, data, steps))
        return found

    def stepped(self, moment, run, thing, data, steps):
        ahead = moment.run
        faults = [fault[1:] for fault in run.faults[len(ahead.faults):]]
        mine = [fault[:3] for fault in faults
                if fault[0] == "fall" or not moment.nothing and thing is not None and fault[3] == thing]
        for fault in mine:
            self.faults.setdefault(fault, steps)
        if not run.fell:
            self.look(moment, run, thing, data, steps)
        if mine or run.over:
            return []
        other = moment.behind(run, thing)
        if len(run.calls) > len(ahead.calls):
            self.entries.setdefault((run.calls[-1]["function"], other.begins[-1][0]), steps)
        return [other]

    def look(self, moment, run, thing, data, steps):
        """Looks at the ends of calls in a step, and at its landing."""
        ahead = moment.run
        place = ahead.here()
        one = ahead.statement(*place)
        seer = Moment.__new__(Moment)
        seer.run, seer.thing, seer.nothing = run, thing, moment.nothing
        if data[0] in LANDINGS:
            cell = one[1] if data[0] == "jump" else ahead.armed
            target = ahead.cells[cell]
            for index in range(target[0] + 1, len(ahead.calls)):
                entry, was = moment.begins[index]
                i = min(k for k, seen in enumerate(was) if seen == target[:2] + (moment.having(target[2]),))
                # The cells as they were ahead of the step: of calls that are over they tell so then.
                told = moment.told(moment.seen(), was, index)
                told = tuple(("ended",) if item[0] == "mine" else item for item in told)
                self.outcomes.setdefault((ahead.calls[index]["function"], entry, ("jump", i, seer.word(), told)), steps)
            call = ahead.calls[target[0]]
            others = [seer.having(waits["held"]) for waits in ahead.calls[:target[0]]]
            outside = seer.word() in ("live", "gone") and any(others)
            self.landings.append((call["function"], seer.having(call["held"]), seer.having(target[2]), seer.word(),
                                  outside))
        elif one is None and len(ahead.calls) > 1:
            entry, was = moment.begins[-1]
            told = moment.told(moment.seen(), was, len(ahead.calls) - 1)
            told = tuple(("ended",) if item[0] == "mine" else item for item in told)
            holds = moment.has(ahead.calls[-1]["held"][ahead.functions[place[0]][2]])
            outcome = ("end", moment.word(), holds, told, ahead.armed or "")
            self.outcomes.setdefault((place[0], entry, outcome), steps)
