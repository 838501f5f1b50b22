"""Modules, wrong values and a step-by-step walker that the tests share. The walker uses nothing of the package."""

import copy
import itertools
import random

AB = ("a", "b")
D = (AB, 1, (("in", 0),), ("low", "out"), ((0, "", "low", ()), (0, "a", 0, ()), (0, "b", "out", ("b",))))
N = (AB, 1, (("in", 0),), ("out",), ((0, "", "out", ()), (0, "a", "out", ("a",)), (0, "b", "out", ("b",))))
M = (AB, 3, (("in", 0),), ("out",), (
    (0, "", "out", ()), (0, "a", 1, ()), (0, "b", 2, ()),
    (1, "", "out", ("a",)), (1, "a", "out", ("a", "a")), (1, "b", "out", ("a", "b")),
    (2, "", "out", ("b",)), (2, "a", "out", ("b", "a")), (2, "b", "out", ("b", "b"))))
C = (AB, 1, (("in", 0),), ("out",), ((0, "", "out", ()), (0, "a", 0, ()), (0, "b", 0, ("a", "a"))))
G = (AB, 1, (("in", 0),), ("out",), ((0, "", "out", ()), (0, "a", 0, ("a", "b", "a"))))
V = (AB, 2, (("in", 0),), ("out",), ((0, "b", 1, ()), (1, "a", "out", ())))
T = (AB, 2, (("in", 0),), ("low", "out"), (
    (0, "", "low", ()), (0, "a", 1, ("a",)), (0, "b", "out", ("b",)), (1, "a", 0, ())))
B = (AB, 1, (("in", 0),), ("low", "out"), ((0, "a", 0, ()), (0, "b", "out", ("b",))))
J = (AB, 1, (("in", 0),), ("out",), ((0, "a", "out", ("a",)),))
E = (AB, 1, (("cut", 0),), ("next",), ((0, "b", "next", ()),))
H = (AB, 1, (("in", 0),), ("done", "more"), ((0, "", "done", ()), (0, "a", "more", ()), (0, "b", "done", ("b",))))
SAMPLES = (D, N, M, C, G)


def nested(kind, depth):
    value = kind()
    for _ in range(depth):
        value = {"a": value} if kind is dict else kind((value,))
    return value


# Values that are neither labels, nor modules, nor rules, nor stacks over a and b, nor entries, nor states.
ODD = (None, True, False, -1, 10 ** 39, -10 ** 39, "A", "a b", "ab\u00e9", "\u0430", "in ", ["a"], ["in", 0], {}, {"a": 1},
       {(0, "a"): ("pop", 0, 1)}, ("A",), ("",), (1,), (True,), (None,), (("a",),), (["a"],), ((), 0), (0, "z", 0, ()),
       nested(list, 19), nested(tuple, 19), nested(dict, 19), [D], ("a", "b", "a", []), list(D), D[:4], D + ((),))


def check_errors(case, call, good, faults):
    """Checks each single wrong argument, and the first error for all choices of several wrong ones at once.

    good: a dict from a position or a keyword to an argument. faults: in the order of the errors, tuples of
    the position or keyword, wrong arguments, the error and the name of its attribute (None for a message).
    """
    before = copy.deepcopy(good)
    run(call, good)
    case.assertEqual(before, good)
    for fault in faults:
        for wrong in fault[1]:
            check_error(case, call, good, [(fault, wrong)])
    for many in range(2, len(faults) + 1):
        for chosen in itertools.combinations(faults, many):
            if len({fault[0] for fault in chosen}) == many:
                for at in (0, -1):
                    check_error(case, call, good, [(fault, fault[1][at]) for fault in chosen])


def check_error(case, call, good, wrongs):
    given = dict(good)
    for fault, wrong in wrongs:
        given[fault[0]] = wrong
    before = copy.deepcopy(given)
    _, _, error, attribute = wrongs[0][0]
    with case.assertRaises(error) as caught:
        run(call, given)
    case.assertIs(type(caught.exception), error, given)
    if attribute:
        case.assertIs(getattr(caught.exception, attribute), wrongs[0][1])
    case.assertEqual(repr(before), repr(given))


def run(call, given):
    positions = [given[key] for key in sorted([key for key in given if isinstance(key, int)])]
    return call(*positions, **{key: worth for key, worth in given.items() if isinstance(key, str)})


def stacks(labels, longest):
    return [stack for length in range(longest + 1) for stack in itertools.product(labels, repeat=length)]


def make_random_modules(seed, many, labels, states, push, doubled=False):
    """Small modules with one entry for each state; some heads have no rule."""
    draw = random.Random(seed)
    modules = []
    for _ in range(many):
        size = draw.randint(1, states)
        rules = []
        for state in range(size):
            for top in ("",) + labels:
                if draw.random() < 0.85:
                    target = draw.choice(list(range(size)) * (3 if top else 1) + ["low", "out"])
                    word = tuple(draw.choice(labels) for _ in range(draw.choice([0, 0, 1, push])))
                    rules.append((state, top, target, word))
        entries = tuple(("e" + "abcdefghijkl"[state], state) for state in range(size))
        modules.append((labels, size, entries, ("low", "out"), tuple(rules)))
    return modules


def walk(module, state, stack, limit):
    """Runs step by step. Returns how the run ends, and the configurations, at most so many as the limit."""
    table = {rule[:2]: rule[2:] for rule in module[4]}
    seen = []
    while len(seen) < limit:
        seen.append((state, stack))
        head = (state, stack[0] if stack else "")
        if head not in table:
            return ("stuck",), seen
        target, push = table[head]
        stack = push + stack[1:]
        if isinstance(target, str):
            return ("exit", target, stack), seen
        state = target
    return ("open",), seen


def walk_head(module, state, top, limit):
    """The summary and the visited heads by single steps; a run longer than the limit is taken for endless."""
    table = {rule[:2]: rule[2:] for rule in module[4]}
    stack = (top,) if top else ()
    visited = set()
    for ticks in range(limit):
        if not stack and top:
            return ("pop", state, ticks), tuple(sorted(visited))
        head = (state, stack[0] if stack else "")
        visited.add(head)
        if head not in table:
            return ("never",), tuple(sorted(visited))
        state, push = table[head]
        stack = push + stack[1:]
        if isinstance(state, str):
            return ("exit", state, stack, ticks + 1), tuple(sorted(visited))
    return ("never",), tuple(sorted(visited))


def walk_result(module, state, stack, limit):
    end, seen = walk(module, state, stack, limit)
    return (end[1], end[2], len(seen)) if end[0] == "exit" else None


def chain(heads, last):
    """A module of a hundred states and twelve labels in which a head needs the next one, so many heads long.

    The last head has the target and the push of `last`. The chain goes through the label heads, and is
    preceded by those of the empty stack if it is longer than these are many.
    """
    labels = tuple("abcdefghijkl")
    row = [(state, label) for state in range(100) for label in labels]
    row = ([(state, "") for state in range(100)] + row)[-heads:] if heads > 1200 else row[:heads]
    rules = [row[-1] + last]
    for head, needed in zip(row, row[1:]):
        rules.append(head + (needed[0], (needed[1],) if needed[1] else ()))
    entries = (("in", row[0][0]),)
    return (labels, 100, entries, ("out",), tuple(sorted(rules))), row


def putting_back(size, labels):
    """A module whose states 0 to size read labels a, so many, and put them back wherever they leave.

    A word of more than nineteen labels is put back by several states behind these, each with nineteen more labels.
    """
    rules = []
    for state in range(size + 1):
        for top in ("",) + labels:
            helpers = max(0, -((19 - state) // 19))
            word = ("a",) * (state - 19 * helpers) + ((top,) if top else ())
            if top == "a" and state < size:
                rules.append((state, top, state + 1, ()))
            else:
                rules.append((state, top, size + 1 + helpers if helpers else "out", word))
    last = max(0, -((19 - size) // 19))
    rules += [(size + 1 + helper, "a", size + helper if helper else "out", ("a",) * (20 if helper else 1))
              for helper in range(last + 1)]
    return (labels, size + 2 + last, (("in", 0),), ("low", "out"), tuple(rules))


class Walks:
    """The results of a module, found by single steps. A run longer than the limit is taken for endless."""

    def __init__(self, module, limit):
        self.module = module
        self.limit = limit
        self.starts = dict(module[2])
        self.known = {}

    def result(self, entry, stack):
        return self.result_from(self.starts[entry], stack)

    def result_from(self, state, stack):
        if (state, stack) not in self.known:
            self.known[(state, stack)] = walk_result(self.module, state, stack, self.limit)
        return self.known[(state, stack)]


def without_ticks(told):
    """A result without its ticks."""
    return None if told is None else told[:2] + (0,)


def moved(module, order):
    """The module with its states in another order: state k becomes order[k]."""
    rules = sorted((order[state], top, order[target] if isinstance(target, int) else target, push)
                   for state, top, target, push in module[4])
    return module[:2] + (tuple((name, order[state]) for name, state in module[2]), module[3], tuple(rules))


def with_copy(module, draw):
    """The module with a copy of a state. Some rules and entries lead to the copy instead."""
    labels, size, entries, exits, rules = module
    state = draw.randrange(size)
    rules += tuple((size,) + rule[1:] for rule in rules if rule[0] == state)
    rules = tuple(rule[:2] + (draw.choice([state, size]),) + rule[3:] if rule[2] == state else rule for rule in rules)
    entries = tuple((name, draw.choice([state, size]) if start == state else start) for name, start in entries)
    return (labels, size + 1, entries, exits, rules)


def with_slower_rule(module, draw):
    """The module with a rule that takes one more tick, if it has a rule for a label."""
    labels, size, entries, exits, rules = module
    old = [rule for rule in rules if rule[1]]
    if not old:
        return module
    rule = draw.choice(old)
    slow = rule[:2] + (size, rule[1:2])
    rules = tuple(slow if one == rule else one for one in rules) + ((size,) + rule[1:],)
    return (labels, size + 1, entries, exits, rules)


def with_other_rule(module, draw):
    """The module with one rule changed, added or left out."""
    labels, size, entries, exits, rules = module
    head = (draw.randrange(size), draw.choice(("",) + labels))
    rules = [rule for rule in rules if rule[:2] != head]
    if draw.random() < 0.8:
        target = draw.choice(list(range(size)) + list(exits))
        rules.append(head + (target, tuple(draw.choice(labels) for _ in range(draw.randrange(3)))))
    return (labels, size, entries, exits, tuple(sorted(rules, key=lambda rule: rule[:2])))


def make_keeping_modules(seed, many, most=4):
    """Modules that often remove labels and put them back, so that states are settled. Ticks differ now and then."""
    draw = random.Random(seed)
    modules = []
    for _ in range(many):
        size = draw.randint(2, most)
        words = {0: ()}
        rules = []
        for state in range(size):
            word = words.get(state, ("a",))
            for top in ("",) + AB:
                behind = draw.randrange(size)
                if top and behind > state and draw.random() < 0.7 and words.setdefault(behind, word + (top,)) == word + (top,):
                    rules.append((state, top, behind, ()))
                elif draw.random() < 0.9:
                    told = word + (top,) if top else word
                    if draw.random() < 0.05:
                        told = told + ("a",)
                    if top and draw.random() < 0.1:
                        rules.append((state, top, state, ("b",) if top == "a" else ()))
                    else:
                        rules.append((state, top, "out" if draw.random() < 0.95 else "low", told))
        entries = tuple(("e" + "abcd"[state], state) for state in range(size))
        modules.append((AB, size, entries, ("low", "out"), tuple(rules)))
    return modules


def make_pairs(seed, many):
    """Pairs of comparable modules that are often equivalent, or nearly so, with a limit for runs that are not endless."""
    draw = random.Random(seed)
    pairs = []
    modules = make_random_modules(seed, many, AB, 3, 2) + make_random_modules(seed + 1, many, ("a",), 4, 2)
    for module in modules + make_keeping_modules(seed + 2, many, 3):
        module = module[:2] + (module[2][:2],) + module[3:]
        other = module
        for change in draw.choices([with_copy, with_slower_rule, with_other_rule], k=draw.choice([0, 1, 1, 2])):
            other = change(other, draw)
        order = list(range(other[1]))
        draw.shuffle(order)
        other = moved(other, order)
        pairs.append((module, other) if draw.random() < 0.5 else (other, module))
    return pairs


def ring(size, leaves, labels=("a",), stuck=False):
    """A module that goes round its states, one label after another, and leaves on the empty stack where `leaves` tells.

    In other states it leaves by another exit, or is stuck.
    """
    rules = []
    for state in range(size):
        if leaves(state) or not stuck:
            rules.append((state, "", "out" if leaves(state) else "low", ()))
        rules += [(state, label, (state + 1) % size, ()) for label in labels]
    return (labels, size, (("in", 0),), ("low", "out"), tuple(rules))


def visits(parts, wires, door, stack, limit, most=60):
    """The result of linked modules, by visits to the parts, each of which is walked step by step.

    parts: Walks or, for contexts, anything with their `result`. door: a pair of a side and an entry. A visit that is
    longer than the limit, and more visits than `most`, are taken for endless.
    """
    ways = dict(wires)
    ticks = 0
    for _ in range(most):
        side, name = door
        told = parts[side].result(name, stack)
        if told is None:
            return None
        leave, stack, more = told
        ticks += more
        if (side, leave) not in ways:
            return (leave, stack, ticks)
        door = ways[(side, leave)]
    return None


def random_wires(draw, first, second):
    """Wires between two modules, and entries that can be kept, all of which are chosen at random."""
    doors = [(side, door) for side, module in enumerate((first, second)) for door in module[3]]
    entries = [(side, name) for side, module in enumerate((first, second)) for name, _ in module[2]]
    wires = tuple((door, draw.choice(entries)) for door in sorted(doors) if draw.random() < 0.7)
    reached = sorted(set(entry for _, entry in wires))
    return wires, tuple(entry for entry in reached if draw.random() < 0.7)


def make_linked(seed, many):
    """Tuples of two modules with different names of entries, wires, and kept entries."""
    draw = random.Random(seed)
    found = []
    modules = make_random_modules(seed, 2 * many, AB, 3, 2) + make_keeping_modules(seed + 1, 2 * many, 3)
    for _ in range(many):
        first, second = draw.sample(modules, 2)
        first = first[:2] + (first[2][:2],) + first[3:]
        second = second[:2] + (tuple(("f" + name[1:], state) for name, state in second[2][:2]),) + second[3:]
        found.append((first, second) + random_wires(draw, first, second))
    return found


class Closure:
    """Papers of parts that need others. A class below tells by `all_needed` what some parts, and the entries, need:

    None where nothing is needed, False where nothing helps.
    """

    def closure(self, parts):
        """These parts with all that are needed; None if something is needed that does not help, or too many."""
        found = set(parts)
        while len(found) < 200:
            more = set(self.all_needed(found)) - {None}
            if False in more:
                return None
            if more <= found:
                return tuple(sorted(found))
            found |= more
        return None
