"""The answers of the procedures of a system, and the calls that they make, without any module."""

from piledoors.errors import InvalidNumber, InvalidProgram, InvalidStack, UnknownEntry
from piledoors.procedures.looks import Looks, value_of, with_flag
from piledoors.procedures.programs import CALL, RETURN, is_bit, is_system_over, require_program_labels
from piledoors.values import is_tuple_of, is_whole_within

MAX_EVENTS = 10000


def answer(labels, system, procedure, inputs):
    """Returns the bit that the procedure answers for the inputs, or None if it never does."""
    looks = looks_of(labels, system, procedure, inputs)
    run = Run(looks, procedure, inputs)
    # A call that is begun twice, or a procedure that comes to the same look twice, goes on for ever.
    begun = {(procedure, inputs): True}
    known = {}
    seen = [{}]
    while run.look is not None:
        if run.look[0] == RETURN:
            known[run.called()] = run.look[1]
            if run.depth() == 1:
                return run.look[1]
            seen.pop()
            run.go_back(run.look[1])
            continue
        if run.look in seen[-1]:
            return None
        seen[-1][run.look] = True
        needed = run.needed()
        if needed in known:
            run.go_on(known[needed])
        elif needed in begun:
            return None
        else:
            begun[needed] = True
            seen.append({})
            run.enter(needed)
    return None


def calls_made(labels, system, procedure, inputs, *, limit=1000):
    """Returns the first calls and returns of the run, in order, as many as the limit allows."""
    looks = looks_of(labels, system, procedure, inputs)
    if not is_whole_within(limit, 0, MAX_EVENTS):
        raise InvalidNumber(limit)
    run = Run(looks, procedure, inputs)
    events = [(CALL, procedure, inputs)]
    while run.look is not None and len(events) < limit:
        if run.look[0] == CALL:
            needed = run.needed()
            events.append((CALL,) + needed)
            run.enter(needed)
            continue
        events.append((RETURN, run.called()[0], run.look[1]))
        if run.depth() == 1:
            break
        run.go_back(run.look[1])
    return tuple(events[:limit])


# What follows is for the package.


def looks_of(labels, system, procedure, inputs):
    """Returns the looks of a system, or raises an error if this is not one, with such a procedure and such inputs."""
    require_program_labels(labels)
    if not is_system_over(labels, system):
        raise InvalidProgram("not a system")
    looks = Looks(system)
    if procedure not in list(looks.inputs):
        raise UnknownEntry(procedure)
    if not (is_tuple_of(inputs, looks.inputs[procedure]) and all([is_bit(bit) for bit in inputs])):
        raise InvalidStack("not as many bits as the procedure has inputs")
    return looks


class Run:
    """A run of the procedures of a system, which goes from look to look. `look` is the present one.

    Calls can be nested deeply, so the ones that wait for an answer stand in a list. A call is a pair of the name of
    a procedure and its inputs.
    """

    def __init__(self, looks, name, bits):
        self.looks = looks
        self.waiting = []
        self.present = (name, bits)
        self.look = looks.beginning(name, bits)

    def called(self):
        """Returns the call that is carried out."""
        return self.present

    def depth(self):
        """Returns how many calls are nested."""
        return len(self.waiting) + 1

    def needed(self):
        """Returns the call to which the procedure has come."""
        _, place, flags = self.look
        _, _, name, arguments, _ = self.looks.call(self.present[0], place)
        return (name, tuple([value_of(part, flags) for part in arguments]))

    def enter(self, call):
        """Carries out a call to which the procedure has come."""
        self.waiting.append((self.present, self.look))
        self.present = call
        self.look = self.looks.beginning(call[0], call[1])

    def go_back(self, bit):
        """Goes back to the calling procedure with the answer, and on behind the call."""
        self.present, self.look = self.waiting.pop()
        self.go_on(bit)

    def go_on(self, bit):
        """Goes on behind the call to which the procedure has come, with its answer."""
        _, place, flags = self.look
        name = self.present[0]
        at = self.looks.call(name, place)[1]
        self.look = self.looks.behind(name, place, with_flag(flags, at, bit))
