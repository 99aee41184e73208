"""Moments of a run, and the moment behind a step.

Nothing here is changed once it is made; so a run can keep its moments, and go back to them.
"""

from landedback.data import LANDINGS

LIVE = "live"
GONE = "gone"
ENDED = "ended"


class Call:
    """A call: the place at which it stands, and what its names hold."""

    def __init__(self, stands, held):
        self.stands = stands
        self.held = held


class Mark:
    """What a cell tells of a mark: the index of its call, the place of its statement, what was saved."""

    def __init__(self, owner, stands, saved):
        self.owner = owner
        self.stands = stands
        self.saved = saved


class Moment:
    """What stands at a moment, and the faults of the step that led to it.

    stack has the calls, main's first; tellings has what each cell tells, None, ENDED or a Mark;
    alarm is the armed cell or None; states has a word for each thing; harms has the faults,
    ascending; fell is whether the step was a fall: then all else is as it was ahead of it.
    """

    def __init__(self, stack, tellings, alarm, states, *, harms=(), fell=False):
        self.stack = stack
        self.tellings = tellings
        self.alarm = alarm
        self.states = states
        self.harms = harms
        self.fell = fell


def first_moment(program, cells):
    """The moment at which a run of a program, which may be one with tries, begins."""
    return Moment((_new_call(program, "main"),), {cell: None for cell in cells}, None, ())


def is_last(moment):
    """Whether the run is over at a moment."""
    return moment.fell or len(moment.stack) == 0


def statement_of(program, moment):
    """The statement at which the call at work stands, or None at an end."""
    return program.spot(moment.stack[-1].stands).item


def aim(program, moment, data):
    """The Mark at which a step with these data lands, or None if it is no landing."""
    if data[0] not in LANDINGS:
        return None
    cell = statement_of(program, moment)[1] if data[0] == "jump" else moment.alarm
    telling = moment.tellings[cell]
    return telling if isinstance(telling, Mark) else None


def stepped(program, moment, data):
    """The moment behind a step with data that it may have."""
    if data[0] in LANDINGS:
        mark = aim(program, moment, data)
        return fallen(moment) if mark is None else _landed(program, moment, mark, data)
    statement = statement_of(program, moment)
    if statement is None:
        return _ended(program, moment)
    if statement[0] == "call":
        return _begun(program, moment, statement)
    return _worked(program, moment, statement, data)


def _new_call(program, function):
    return Call((function, (0,)), {name: None for name in program.names(function)})


def fallen(moment):
    """The moment behind a fall."""
    harm = ("fall",) + moment.stack[-1].stands + (None,)
    return Moment(moment.stack, moment.tellings, moment.alarm, moment.states, harms=(harm,), fell=True)


def _landed(program, moment, mark, data):
    owner = moment.stack[mark.owner]
    held = {**owner.held}
    for name in data[1]:
        held[name] = mark.saved[name]
    landing = (mark.stands[0], program.spot(mark.stands).doors[1])
    stack = moment.stack[:mark.owner] + (Call(landing, held),)
    states = moment.states + (LIVE,) if data[0] == "within" else moment.states
    lost = losses(moment, stack, states, mark.stands)
    return Moment(stack, _cut_off(moment.tellings, len(stack)), None, states, harms=lost)


def _ended(program, moment):
    ended = moment.stack[-1]
    stack = moment.stack[:-1]
    place = ended.stands
    if len(stack) > 0:
        waiting = stack[-1]
        place = waiting.stands
        spot = program.spot(place)
        held = {**waiting.held, spot.item[1]: ended.held[program.result(ended.stands[0])]}
        stack = stack[:-1] + (Call((place[0], spot.behind), held),)
    lost = losses(moment, stack, moment.states, place)
    return Moment(stack, _cut_off(moment.tellings, len(stack)), moment.alarm, moment.states, harms=lost)


def _begun(program, moment, statement):
    call = _new_call(program, statement[2])
    for parameter, name in zip(program.parameters(statement[2]), statement[3]):
        call.held[parameter] = moment.stack[-1].held[name]
    return Moment(moment.stack + (call,), moment.tellings, moment.alarm, moment.states)


def _worked(program, moment, statement, data):
    """The moment behind a step of a statement that stays in its call."""
    call = moment.stack[-1]
    held = _held_behind(statement, call.held, len(moment.states))
    states = _states_behind(statement, call.held, moment.states)
    address = _address_behind(program.spot(call.stands), data)
    stack = moment.stack[:-1] + (Call((call.stands[0], address), held),)
    harms = _missed(statement, call, moment.states)
    # By no other statement a name comes to hold something else.
    if statement[0] in ("get", "take", "clear"):
        harms = losses(moment, stack, states, call.stands)
    return Moment(stack, _tellings_behind(program, moment, statement), _alarm_behind(moment, statement), states,
                  harms=harms)


def _address_behind(spot, data):
    if data[0] == "body":
        return spot.doors[data[1]]
    if spot.word in ("mark", "try"):
        return spot.doors[0]
    return spot.behind


def _held_behind(statement, held, many):
    """What the names hold behind a statement; many things were got so far."""
    if statement[0] == "get":
        return {**held, statement[1]: many}
    if statement[0] == "take":
        return {**held, statement[1]: held[statement[2]]}
    if statement[0] == "clear":
        return {**held, statement[1]: None}
    return held


def _states_behind(statement, held, states):
    if statement[0] == "get":
        return states + (LIVE,)
    if statement[0] == "free" and held[statement[1]] is not None:
        freed = held[statement[1]]
        return states[:freed] + (GONE,) + states[freed + 1:]
    return states


def _tellings_behind(program, moment, statement):
    if statement[0] == "move":
        return {**moment.tellings, statement[1]: moment.tellings[statement[2]]}
    if statement[0] == "mark":
        call = moment.stack[-1]
        saved = {name: call.held[name] for name in program.loose_names(call.stands[0])}
        return {**moment.tellings, statement[1]: Mark(len(moment.stack) - 1, call.stands, saved)}
    return moment.tellings


def _alarm_behind(moment, statement):
    if statement[0] == "arm":
        return statement[1]
    if statement[0] == "rest":
        return None
    return moment.alarm


def _cut_off(tellings, many):
    """What the cells tell once only the first many calls are left, and marks of no others stand."""
    return {cell: _told_by(tellings[cell], many) for cell in tellings}


def _told_by(telling, many):
    return ENDED if isinstance(telling, Mark) and telling.owner >= many else telling


def _missed(statement, call, states):
    """The faults of a statement that uses or frees what is gone."""
    if statement[0] not in ("use", "free"):
        return ()
    thing = call.held[statement[1]]
    if thing is None or states[thing] != GONE:
        return ()
    return (("gone",) + call.stands + (thing,),)


def losses(ahead, stack, states, place):
    """The faults, with this place, of what is lost by the step from a moment to such calls and things."""
    held = _things_in(ahead.stack)
    left = _things_in(stack)
    got = list(range(len(ahead.states), len(states)))
    lost = [thing for thing in sorted(list(held)) + got if states[thing] == LIVE and thing not in left]
    return tuple([("lost",) + place + (thing,) for thing in lost])


def _things_in(stack):
    """A dict whose keys are the things that some name of these calls holds."""
    return {thing: True for call in stack for thing in call.held.values() if thing is not None}
