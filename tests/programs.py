"""Programs with procedures that the tests share, and a plain evaluation. It uses nothing of the package."""

import random

L = ("f", "ra", "rb", "t")
LESS = (("and", ("flag", 0), ("flag", 1)), ("not", ("flag", 1)))
SOME = ("or", ("flag", 0), ("flag", 1))
EV = ((("even", 2, 3, (("if", SOME, (("call", 2, "odd", LESS, "ra"), ("return", ("flag", 2))), (("return", 1),)),)),), (("odd", 2),))
OD = ((("odd", 2, 3, (("if", SOME, (("call", 2, "even", LESS, "rb"), ("return", ("flag", 2))), (("return", 0),)),)),), (("even", 2),))
TWELVE = ("f", "ra", "rb", "rc", "rd", "re", "rg", "rh", "ri", "rj", "rk", "t")
FULL = ("f", "ra", "rb", "rc", "rd", "t", "x")
NAMES = ("alpha", "beta", "gamma", "delta")
RETURNS = ("ra", "rb", "rc", "rd")


class OutOfFuel(Exception):
    """The evaluation takes too many steps."""


class OutOfDepth(Exception):
    """Calls are nested too deeply."""


def random_expression(draw, flags, depth):
    kind = draw.choice(["bit", "flag", "flag", "flag", "not", "and", "or"])
    if kind == "bit" or depth == 1 and kind != "flag" or kind == "flag" and flags == 0:
        return draw.randrange(2)
    if kind == "flag":
        return ("flag", draw.randrange(flags))
    many = 1 if kind == "not" else 2
    return (kind,) + tuple(random_expression(draw, flags, depth - 1) for _ in range(many))


class Writer:
    """Writes bodies with calls of some names, each with a label of its own, as long as there are labels."""

    def __init__(self, draw, inputs, labels):
        self.draw = draw
        self.inputs = inputs
        self.labels = list(labels)

    def body(self, flags, depth, most):
        return tuple(self.statement(flags, depth) for _ in range(self.draw.randint(0 if depth > 1 else 1, most)))

    def statement(self, flags, depth):
        draw = self.draw
        kind = draw.choice(["set", "set", "call", "call", "if", "while", "return"] if depth == 1 else
                           ["set", "set", "call", "if", "while", "return"])
        if kind in ("if", "while") and depth == 3 or kind == "set" and not flags:
            kind = "return"
        if kind == "call" and not (flags and self.labels):
            kind = "set" if flags else "return"
        if kind == "set":
            return ("set", draw.randrange(flags), random_expression(draw, flags, draw.randint(1, 3)))
        if kind == "call":
            name = draw.choice(sorted(self.inputs))
            arguments = tuple(random_expression(draw, flags, 2) for _ in range(self.inputs[name]))
            return ("call", draw.randrange(flags), name, arguments, self.labels.pop())
        test = random_expression(draw, flags, 3)
        if kind == "if":
            return ("if", test, self.body(flags, depth + 1, 3), self.body(flags, depth + 1, 2))
        return ("while", test, self.body(flags, depth + 1, 3)) if kind == "while" else ("return", test)


def random_system(draw, labels=RETURNS):
    """A system of one to three programs with at most four procedures and calls."""
    names = sorted(draw.sample(NAMES, draw.randint(1, 4)))
    flags = {name: draw.choice([0, 1, 2, 2, 3, 3]) for name in names}
    inputs = {name: draw.randint(0, flags[name]) for name in names}
    sides = {name: draw.randrange(min(3, len(names))) for name in names}
    writer = Writer(draw, inputs, draw.sample(labels, min(4, len(labels))))
    bodies = {name: writer.body(flags[name], 1, 4) for name in names}
    programs = []
    for side in sorted(set(sides.values())):
        own = [name for name in names if sides[name] == side]
        called = {call[2] for name in own for call in calls_in(bodies[name])}
        more = {name for name in names if name not in own and draw.random() < 0.2}
        imports = tuple((name, inputs[name]) for name in sorted((called | more) - set(own)))
        programs.append((tuple((name, inputs[name], flags[name], bodies[name]) for name in own), imports))
    return tuple(programs)


def make_systems(seed, many, labels=RETURNS):
    draw = random.Random(seed)
    return [random_system(draw, labels) for _ in range(many)]


def calls_in(body):
    found = []
    for statement in body:
        if statement[0] == "call":
            found.append(statement)
        for part in statement:
            if statement[0] in ("if", "while") and isinstance(part, tuple) and not (part and isinstance(part[0], str)):
                found += calls_in(part)
    return found


def evaluate(expression, flags):
    if expression in (0, 1):
        return expression
    word = expression[0]
    if word == "flag":
        return flags[expression[1]]
    values = [evaluate(part, flags) for part in expression[1:]]
    return {"not": 1 - values[0], "and": min(values), "or": max(values)}[word]


class Plain:
    """Carries out procedures as 16.3 tells it, statement by statement."""

    def __init__(self, system, fuel=4000, depth=60):
        self.procedures = {procedure[0]: procedure for program in system for procedure in program[0]}
        self.fuel = fuel
        self.depth = depth
        self.events = []

    def answer(self, name, inputs):
        """The answer, or None if there is none within the fuel and the depth."""
        try:
            return self.call(name, inputs, 1)
        except (OutOfFuel, OutOfDepth):
            return None

    def call(self, name, inputs, depth):
        self.events.append(("call", name, inputs))
        if depth > self.depth:
            raise OutOfDepth
        _, many, flags, body = self.procedures[name]
        values = list(inputs) + [0] * (flags - many)
        told = self.body(body, values, depth)
        bit = 0 if told is None else told
        self.events.append(("return", name, bit))
        return bit

    def body(self, body, flags, depth):
        """The bit that is answered, or None at the end of the body."""
        for statement in body:
            told = self.statement(statement, flags, depth)
            if told is not None:
                return told
        return None

    def statement(self, statement, flags, depth):
        self.fuel -= 1
        if self.fuel < 0:
            raise OutOfFuel
        word = statement[0]
        if word == "return":
            return evaluate(statement[1], flags)
        if word == "set":
            flags[statement[1]] = evaluate(statement[2], flags)
        elif word == "call":
            inputs = tuple(evaluate(part, flags) for part in statement[3])
            flags[statement[1]] = self.call(statement[2], inputs, depth + 1)
        elif word == "if":
            return self.body(statement[2] if evaluate(statement[1], flags) else statement[3], flags, depth)
        else:
            while evaluate(statement[1], flags):
                self.fuel -= 1
                if self.fuel < 0:
                    raise OutOfFuel
                told = self.body(statement[2], flags, depth)
                if told is not None:
                    return told
        return None


def bits_of(many):
    """All tuples of so many bits."""
    return [()] if many == 0 else [(bit,) + rest for bit in (0, 1) for rest in bits_of(many - 1)]
