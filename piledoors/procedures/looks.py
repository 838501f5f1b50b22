"""What procedures do from one look at the stack to the next one. It depends on the flags only.

A look is `(CALL, place, flags)` if a procedure comes to the call at this place of its code, or `(RETURN, bit)` if it
answers, or None if it comes to a loop that does not end and contains neither.
"""

from piledoors.procedures.programs import AND, CALL, FLAG, IF, NOT, RETURN, SET, WHILE

JUMP = "jump"
UNLESS = "unless"


class Looks:
    """The procedures of some programs, whose names are distinct, and the looks to which they come.

    `inputs`, `flags` and `codes` are dicts from the names of the procedures.
    """

    def __init__(self, programs):
        procedures = [procedure for program in programs for procedure in program[0]]
        self.inputs = {name: inputs for name, inputs, _, _ in procedures}
        self.flags = {name: flags for name, _, flags, _ in procedures}
        self.codes = {name: code_of(body) for name, _, _, body in procedures}
        self.found = {}

    def beginning(self, name, bits):
        """Returns the first look of the procedure with these inputs."""
        return self.look_from(name, 0, bits + (0,) * (self.flags[name] - self.inputs[name]))

    def behind(self, name, place, flags):
        """Returns the look that follows the call at this place, where the answer is in its flag already."""
        return self.look_from(name, place + 1, flags)

    def look_from(self, name, place, flags):
        """Returns the next look from a place of the code of a procedure."""
        key = (name, place, flags)
        if key not in self.found:
            self.found[key] = next_look(self.codes[name], place, flags)
        return self.found[key]

    def call(self, name, place):
        """Returns the call at this place of the code of a procedure."""
        return self.codes[name][place]


def code_of(body):
    """Returns the code of a procedure: a list of its statements without bodies, and of jumps between them."""
    code = []
    add_body(code, body)
    code.append((RETURN, 0))
    return code


def add_body(code, body):
    """Adds the statements of a body to the code."""
    for statement in body:
        start = len(code)
        if statement[0] == IF:
            code.append(None)
            add_body(code, statement[2])
            middle = len(code)
            code.append(None)
            code[start] = (UNLESS, statement[1], len(code))
            add_body(code, statement[3])
            code[middle] = (JUMP, len(code))
        elif statement[0] == WHILE:
            code.append(None)
            add_body(code, statement[2])
            code.append((JUMP, start))
            code[start] = (UNLESS, statement[1], len(code))
        else:
            code.append(statement)


def next_look(code, place, flags):
    """Returns the next look from this place of the code."""
    seen = {}
    while True:
        statement = code[place]
        if statement[0] == CALL:
            return (CALL, place, flags)
        if statement[0] == RETURN:
            return (RETURN, value_of(statement[1], flags))
        if statement[0] == SET:
            flags = with_flag(flags, statement[1], value_of(statement[2], flags))
            place = place + 1
        elif statement[0] == UNLESS:
            place = place + 1 if value_of(statement[1], flags) == 1 else statement[2]
        else:
            # Each loop jumps back, so the run is in one that does not end if it jumps from here again.
            if (place, flags) in seen:
                return None
            seen[(place, flags)] = True
            place = statement[1]


def with_flag(flags, at, bit):
    """Returns the flags with another value of one of them."""
    return flags[:at] + (bit,) + flags[at + 1:]


def value_of(expression, flags):
    """Returns the value of an expression."""
    if isinstance(expression, int):
        return expression
    kind = expression[0]
    if kind == FLAG:
        return flags[expression[1]]
    if kind == NOT:
        return 1 - value_of(expression[1], flags)
    one = value_of(expression[1], flags)
    if one == (0 if kind == AND else 1):
        return one
    return value_of(expression[2], flags)
