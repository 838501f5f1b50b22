"""A shell that carries out commands on a workshop."""

from piledoors.compare.equivalence import separating_stack
from piledoors.compare.replacement import replacement_gap
from piledoors.errors import InvalidCommand
from piledoors.interfaces.realize import least_form
from piledoors.summaries.endings import EXIT, NEVER, POP
from piledoors.text.commands import read_command
from piledoors.text.formats import (YES, format_interface, format_module, format_result, text_of_integer,
                                    text_of_names)
from piledoors.workshop.workshop import Workshop

OK = "ok"


def do_add(workshop, values):
    """Adds a module."""
    workshop.add(values[0], values[1])
    return OK


def do_remove(workshop, values):
    """Removes a module."""
    workshop.remove(values[0])
    return OK


def do_set(workshop, values):
    """Sets a rule."""
    name, rule = values
    workshop.set_rule(name, rule[0], rule[1], rule[2], rule[3])
    return OK


def do_clear(workshop, values):
    """Clears a rule."""
    workshop.clear_rule(values[0], values[1], values[2])
    return OK


def do_link(workshop, values):
    """Adds a link."""
    workshop.link(values[0], values[1], values[2], values[3])
    return OK


def do_undo(workshop, values):
    """Undoes edits."""
    workshop.undo(many=values[0])
    return OK


def do_redo(workshop, values):
    """Redoes edits."""
    workshop.redo(many=values[0])
    return OK


def do_least(workshop, values):
    """Adds the least form of a module."""
    new, name = values
    workshop.add(new, least_form(workshop.module(name)))
    return OK


def tell_names(workshop, values):
    """Returns the names of all modules. There are no values."""
    return text_of_names(workshop.names())


def tell_module(workshop, values):
    """Returns the text of a module."""
    return format_module(workshop.module(values[0]))


def tell_result(workshop, values):
    """Returns the text of a result."""
    return format_result(workshop.result(values[0], values[1], values[2]))


def tell_summary(workshop, values):
    """Returns the text of a summary."""
    told = workshop.summary(values[0], values[1], values[2])
    if told[0] == POP:
        return f"{POP} {told[1]} {text_of_integer(told[2])}"
    if told[0] == EXIT:
        return f"{EXIT} {told[1]} {text_of_integer(told[3])} {text_of_names(told[2])}"
    return NEVER


def tell_interface(workshop, values):
    """Returns the text of an interface, with clock if there is a second value."""
    return format_interface(workshop.interface(values[0], clock=len(values) == 2))


def tell_equivalent(workshop, values):
    """Returns whether two modules are equivalent, with clock if there is a third value."""
    modules = [workshop.module(name) for name in values[:2]]
    return text_of_difference(separating_stack(modules[0], modules[1], clock=len(values) == 3))


def tell_replaces(workshop, values):
    """Returns whether the second module may replace the first one."""
    modules = [workshop.module(name) for name in values]
    return text_of_difference(replacement_gap(modules[0], modules[1]))


def text_of_difference(found):
    """Returns the text of an entry and a stack on which modules differ, or of None if they do not."""
    if found is None:
        return YES
    return f"no {found[0]} {text_of_names(found[1])}"


ACTIONS = {"add": do_add, "remove": do_remove, "set": do_set, "clear": do_clear, "link": do_link, "undo": do_undo,
           "redo": do_redo, "least": do_least, "names": tell_names, "module": tell_module, "result": tell_result,
           "summary": tell_summary, "interface": tell_interface, "equivalent": tell_equivalent,
           "replaces": tell_replaces}


class Shell:
    """A workshop, the commands that were answered on it, and their answers."""

    def __init__(self, labels):
        self._workshop = Workshop(labels)
        self._answered = []

    def __len__(self):
        return len(self._answered)

    def __str__(self):
        return f"shell with {len(self._workshop)} modules, {len(self._answered)} answers"

    def __eq__(self, other):
        if not isinstance(other, Shell):
            return False
        return self._workshop == other._workshop and self._answered == other._answered

    def history(self):
        """Returns the commands that were answered, with their answers."""
        return tuple(self._answered)

    def workshop(self):
        """Returns an independent copy of the workshop."""
        return self._workshop.twin()

    def run(self, command):
        """Carries out a command, and returns its answer."""
        word, values = read_command(self._workshop.labels(), command)
        action = ACTIONS[word]
        # An action that changes something raises no error behind that.
        answer = action(self._workshop, values)
        self._answered.append((command, answer))
        return answer

    def run_all(self, commands):
        """Carries out commands until one raises an error, and returns their answers."""
        if not isinstance(commands, tuple):
            raise InvalidCommand("not a tuple of commands")
        answers = []
        for command in commands:
            answers.append(self.run(command))
        return tuple(answers)
