"""The modules of programs and of systems."""

from piledoors.errors import InvalidProgram
from piledoors.modules.modules import EMPTY
from piledoors.procedures.looks import Looks, value_of
from piledoors.procedures.programs import (BACK, BITS, CALL, END, RETURN, is_program_over, is_system_over,
                                           require_program_labels)

READ = "read"
ANSWER = "answer"
FLAGS = "flags"


def program_module(labels, program):
    """Returns a module of the program."""
    require_program_labels(labels)
    if not is_program_over(labels, program):
        raise InvalidProgram("not a program")
    exits = [name for name, inputs in program[1]] + [BACK, END]
    return Builder(labels, [program], True).module(exits)


def system_module(labels, system):
    """Returns a module of the system."""
    require_program_labels(labels)
    if not is_system_over(labels, system):
        raise InvalidProgram("not a system")
    # What one program cannot take back goes on to the next one, and goes round for ever if none of them can.
    return Builder(labels, system, False).module([END])


class Builder:
    """Builds the module of some programs.

    A state is told by a key, which says what is known by then: (READ, name, bits) if a procedure has read these
    inputs; (BACK,) if an answer is to be read; (ANSWER, bit) if it is read; (FLAGS, label, bit, flags) if a call with
    this label has got this answer, and these flags are read and already have their new values.
    """

    def __init__(self, labels, programs, has_back):
        self.labels = labels
        # The module of a program has an entry and an exit for answers to others.
        self.has_back = has_back
        self.looks = Looks(programs)
        self.calls = calls_by_label(self.looks.codes)
        self.numbers = {}
        self.states = []

    def module(self, exits):
        """Returns the module, which has these exits."""
        entries = [(name, self.number((READ, name, ()))) for name in self.looks.inputs]
        if self.has_back:
            entries.append((BACK, self.number((BACK,))))
        rules = []
        done = 0
        while done < len(self.states):
            for top, effect in self.effects(self.states[done]):
                if effect is not None:
                    rules.append((done, top) + effect)
            done = done + 1
        ordered = tuple(sorted(rules, key=lambda rule: rule[:2]))
        return (self.labels, len(self.states), tuple(sorted(entries)), tuple(sorted(exits)), ordered)

    def number(self, key):
        """Returns the state with this key."""
        if key not in self.numbers:
            self.numbers[key] = len(self.states)
            self.states.append(key)
        return self.numbers[key]

    def effects(self, key):
        """Returns pairs of a top and what the state with this key does on it: the target and the push, or None."""
        if key[0] == READ:
            return self.effects_of_reading(key[1], key[2])
        if key[0] == BACK:
            return [(top, (self.number((ANSWER, bit)), ())) for bit, top in enumerate(BITS)]
        if key[0] == ANSWER:
            return [(top, self.effect_behind(top, key[1])) for top in (EMPTY,) + self.labels]
        _, label, bit, flags = key
        return [(top, self.effect_of_flag(label, bit, flags, old)) for old, top in enumerate(BITS)]

    def effects_of_reading(self, name, bits):
        """Returns what happens when a procedure has read these inputs."""
        if self.looks.inputs[name] == 0:
            told = self.effect_of_look(name, self.looks.beginning(name, ()))
            # The procedure reads nothing, so the label that is on top is put back below.
            return [(top, with_top(told, top)) for top in (EMPTY,) + self.labels]
        return [(top, self.effect_of_input(name, bits + (bit,))) for bit, top in enumerate(BITS)]

    def effect_of_input(self, name, bits):
        """Returns what a procedure does that has just read the last one of these inputs."""
        if len(bits) < self.looks.inputs[name]:
            return (self.number((READ, name, bits)), ())
        return self.effect_of_look(name, self.looks.beginning(name, bits))

    def effect_behind(self, top, bit):
        """Returns what happens with an answer in front of this label."""
        if top in self.calls:
            return (self.number((FLAGS, top, bit, ())), ())
        if top == EMPTY:
            return (END, (BITS[bit],))
        return (BACK, (BITS[bit], top)) if self.has_back else None

    def effect_of_flag(self, label, bit, flags, old):
        """Returns what happens when the next flag behind these is read, with its old value."""
        name, place = self.calls[label]
        call = self.looks.call(name, place)
        flags = flags + (bit if call[1] == len(flags) else old,)
        if len(flags) < self.looks.flags[name]:
            return (self.number((FLAGS, label, bit, flags)), ())
        return self.effect_of_look(name, self.looks.behind(name, place, flags))

    def effect_of_look(self, name, look):
        """Returns what happens when a procedure comes to this look."""
        if look is None:
            return None
        if look[0] == RETURN:
            return (self.number((BACK,)), (BITS[look[1]],))
        _, place, flags = look
        _, _, needed, arguments, label = self.looks.call(name, place)
        word = [BITS[value_of(part, flags)] for part in arguments] + [label] + [BITS[flag] for flag in flags]
        return (self.number((READ, needed, ())) if needed in self.looks.inputs else needed, tuple(word))


def calls_by_label(codes):
    """Returns a dict from the label of each call to the name of the calling procedure and the place in its code."""
    calls = {}
    for name, code in codes.items():
        for place, statement in enumerate(code):
            if statement[0] == CALL:
                calls[statement[4]] = (name, place)
    return calls


def with_top(effect, top):
    """Returns an effect that also puts the top back, which it removes, below what it pushes."""
    if effect is None or top == EMPTY:
        return effect
    return (effect[0], effect[1] + (top,))
