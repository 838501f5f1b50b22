"""Programs with procedures, and systems of programs."""

from piledoors.errors import InvalidLabels
from piledoors.modules.modules import is_labels
from piledoors.values import are_names, is_tuple_of, is_whole_within

BITS = ("f", "t")
BACK = "back"
END = "end"
SET = "set"
CALL = "call"
IF = "if"
WHILE = "while"
RETURN = "return"
FLAG = "flag"
NOT = "not"
AND = "and"
OR = "or"
MAX_FLAGS = 3
MAX_PROCEDURES = 4
MAX_IMPORTS = 4
MAX_CALLS = 4
MAX_PROGRAMS = 3
MAX_STATEMENTS = 8
MAX_BODIES = 3
MAX_EXPRESSIONS = 4


def is_program(labels, value):
    """Returns whether the value is a program."""
    require_program_labels(labels)
    return is_program_over(labels, value)


def is_system(labels, value):
    """Returns whether the value is a system."""
    require_program_labels(labels)
    return is_system_over(labels, value)


# What follows is for the package.


def require_program_labels(labels):
    """Raises an error if these are not labels for programs."""
    if not (is_labels(labels) and all([bit in labels for bit in BITS])):
        raise InvalidLabels("not labels with f and t")


def is_program_over(labels, value):
    """Returns whether the value is a program, where these are labels for programs."""
    if not (is_tuple_of(value, 2) and are_headed(value[0]) and are_imports(value[1])):
        return False
    procedures, imports = value
    inputs = {name: many for name, many, _, _ in procedures}
    inputs.update({name: many for name, many in imports})
    if len(inputs) != len(procedures) + len(imports) or BACK in inputs or END in inputs:
        return False
    form = Form([label for label in labels if label not in BITS], inputs)
    if not all([form.is_body(flags, body, 1) for _, _, flags, body in procedures]):
        return False
    return are_few_calls(calls_in(procedures))


def is_system_over(labels, value):
    """Returns whether the value is a system, where these are labels for programs."""
    if not (isinstance(value, tuple) and 1 <= len(value) <= MAX_PROGRAMS):
        return False
    if not all([is_program_over(labels, program) for program in value]):
        return False
    procedures = [procedure for program in value for procedure in program[0]]
    inputs = {procedure[0]: procedure[1] for procedure in procedures}
    if len(procedures) > MAX_PROCEDURES or len(inputs) != len(procedures):
        return False
    # The imports of a program are none of its own procedures.
    if not all([inputs.get(name) == many for program in value for name, many in program[1]]):
        return False
    return are_few_calls(calls_in(procedures))


def are_headed(value):
    """Returns whether the value is a tuple of what may be procedures, but for their bodies."""
    if not (isinstance(value, tuple) and 1 <= len(value) <= MAX_PROCEDURES):
        return False
    for part in value:
        if not (is_tuple_of(part, 4) and is_whole_within(part[2], 0, MAX_FLAGS)):
            return False
        if not is_whole_within(part[1], 0, part[2]):
            return False
    return are_names(tuple([part[0] for part in value]), True)


def are_imports(value):
    """Returns whether the value may be the imports of a program."""
    if not (isinstance(value, tuple) and len(value) <= MAX_IMPORTS):
        return False
    if not all([is_tuple_of(part, 2) and is_whole_within(part[1], 0, MAX_FLAGS) for part in value]):
        return False
    return are_names(tuple([part[0] for part in value]), True)


class Form:
    """What bodies of procedures look like that have these return labels, and can call these names.

    `inputs` is a dict from each name to the number of its inputs.
    """

    def __init__(self, returns, inputs):
        self.returns = returns
        self.inputs = inputs

    def is_body(self, flags, value, depth):
        """Returns whether the value is a body for so many flags that may stand at this depth, 1 for a whole body."""
        if depth > MAX_BODIES or not (isinstance(value, tuple) and len(value) <= MAX_STATEMENTS):
            return False
        return all([self.is_statement(flags, part, depth) for part in value])

    def is_statement(self, flags, value, depth):
        """Returns whether the value is a statement for so many flags that may stand in a body at this depth."""
        if not (isinstance(value, tuple) and len(value) >= 2):
            return False
        word = value[0]
        if word == SET:
            return len(value) == 3 and is_flag(flags, value[1]) and is_expression(flags, value[2], 1)
        if word == CALL:
            return len(value) == 5 and is_flag(flags, value[1]) and self.is_call(flags, value)
        if word == IF:
            if len(value) != 4 or not is_expression(flags, value[1], 1):
                return False
            return self.is_body(flags, value[2], depth + 1) and self.is_body(flags, value[3], depth + 1)
        if word == WHILE:
            return len(value) == 3 and is_expression(flags, value[1], 1) and self.is_body(flags, value[2], depth + 1)
        return word == RETURN and len(value) == 2 and is_expression(flags, value[1], 1)

    def is_call(self, flags, value):
        """Returns whether this tuple of five parts calls a name that can be called, in the right way."""
        _, _, name, arguments, label = value
        if not (isinstance(name, str) and name in self.inputs and label in self.returns):
            return False
        return is_tuple_of(arguments, self.inputs[name]) and all([is_expression(flags, part, 1) for part in arguments])


def is_bit(value):
    """Returns whether the value is a bit."""
    return is_whole_within(value, 0, 1)


def is_flag(flags, value):
    """Returns whether the value is one of so many flags."""
    return is_whole_within(value, 0, flags - 1)


def is_expression(flags, value, depth):
    """Returns whether the value is an expression for so many flags that may stand at this depth."""
    if depth > MAX_EXPRESSIONS:
        return False
    if not isinstance(value, tuple):
        return is_bit(value)
    if len(value) == 2:
        if value[0] == FLAG:
            return is_flag(flags, value[1])
        return value[0] == NOT and is_expression(flags, value[1], depth + 1)
    if len(value) != 3 or value[0] not in (AND, OR):
        return False
    return is_expression(flags, value[1], depth + 1) and is_expression(flags, value[2], depth + 1)


def calls_in(procedures):
    """Returns a list of all calls in the bodies of procedures."""
    return [call for _, _, _, body in procedures for call in calls_in_body(body)]


def calls_in_body(body):
    """Returns a list of all calls in a body, and in the bodies within it."""
    calls = []
    for statement in body:
        if statement[0] == CALL:
            calls.append(statement)
        elif statement[0] == IF:
            calls.extend(calls_in_body(statement[2]))
            calls.extend(calls_in_body(statement[3]))
        elif statement[0] == WHILE:
            calls.extend(calls_in_body(statement[2]))
    return calls


def are_few_calls(calls):
    """Returns whether there are no more calls than a program can have, with distinct labels."""
    labels = {call[4]: True for call in calls}
    return len(labels) == len(calls) and len(calls) <= MAX_CALLS
