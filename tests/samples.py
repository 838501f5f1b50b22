"""Modules, wrong values and a step-by-step walker that the tests share. The walker uses nothing of the package."""

import copy
import itertools
import random

AB = ("a", "b")
D = (AB, 1, (("in", 0),), ("low", "out"), ((0, "", "low", ()), (0, "a", 0, ()), (0, "b", "out", ("b",))))
N = (AB, 1, (("in", 0),), ("out",), ((0, "", "out", ()), (0, "a", "out", ("a",)), (0, "b", "out", ("b",))))
M = (AB, 3, (("in", 0),), ("out",), (
    (0, "", "out", ()), (0, "a", 1, ()), (0, "b", 2, ()),
    (1, "", "out", ("a",)), (1, "a", "out", ("a", "a")), (1, "b", "out", ("a", "b")),
    (2, "", "out", ("b",)), (2, "a", "out", ("b", "a")), (2, "b", "out", ("b", "b"))))
C = (AB, 1, (("in", 0),), ("out",), ((0, "", "out", ()), (0, "a", 0, ()), (0, "b", 0, ("a", "a"))))
G = (AB, 1, (("in", 0),), ("out",), ((0, "", "out", ()), (0, "a", 0, ("a", "b", "a"))))
SAMPLES = (D, N, M, C, G)


def nested(kind, depth):
    value = kind()
    for _ in range(depth):
        value = {"a": value} if kind is dict else kind((value,))
    return value


# Values that are neither labels, nor modules, nor rules, nor stacks over a and b, nor entries, nor states.
ODD = (None, True, False, -1, 10 ** 39, -10 ** 39, "A", "a b", "ab\u00e9", "\u0430", "in ", ["a"], ["in", 0], {}, {"a": 1},
       {(0, "a"): ("pop", 0, 1)}, ("A",), ("",), (1,), (True,), (None,), (("a",),), (["a"],), ((), 0), (0, "z", 0, ()),
       nested(list, 19), nested(tuple, 19), nested(dict, 19), [D], ("a", "b", "a", []), list(D), D[:4], D + ((),))


def check_errors(case, call, good, faults):
    """Checks each single wrong argument, and the first error for all choices of several wrong ones at once.

    good: a dict from a position or a keyword to an argument. faults: in the order of the errors, tuples of
    the position or keyword, wrong arguments, the error and the name of its attribute (None for a message).
    """
    before = copy.deepcopy(good)
    run(call, good)
    case.assertEqual(before, good)
    for fault in faults:
        for wrong in fault[1]:
            check_error(case, call, good, [(fault, wrong)])
    for many in range(2, len(faults) + 1):
        for chosen in itertools.combinations(faults, many):
            if len({fault[0] for fault in chosen}) == many:
                for at in (0, -1):
                    check_error(case, call, good, [(fault, fault[1][at]) for fault in chosen])


def check_error(case, call, good, wrongs):
    given = dict(good)
    for fault, wrong in wrongs:
        given[fault[0]] = wrong
    before = copy.deepcopy(given)
    _, _, error, attribute = wrongs[0][0]
    with case.assertRaises(error) as caught:
        run(call, given)
    case.assertIs(type(caught.exception), error, given)
    if attribute:
        case.assertIs(getattr(caught.exception, attribute), wrongs[0][1])
    case.assertEqual(repr(before), repr(given))


def run(call, given):
    positions = [given[key] for key in sorted([key for key in given if isinstance(key, int)])]
    return call(*positions, **{key: worth for key, worth in given.items() if isinstance(key, str)})


def stacks(labels, longest):
    return [stack for length in range(longest + 1) for stack in itertools.product(labels, repeat=length)]


def make_random_modules(seed, many, labels, states, push, doubled=False):
    """Small modules with one entry for each state; some heads have no rule."""
    draw = random.Random(seed)
    modules = []
    for _ in range(many):
        size = draw.randint(1, states)
        rules = []
        for state in range(size):
            for top in ("",) + labels:
                if draw.random() < 0.85:
                    target = draw.choice(list(range(size)) * (3 if top else 1) + ["low", "out"])
                    word = tuple(draw.choice(labels) for _ in range(draw.choice([0, 0, 1, push])))
                    rules.append((state, top, target, word))
        entries = tuple(("e" + "abcdefghijkl"[state], state) for state in range(size))
        modules.append((labels, size, entries, ("low", "out"), tuple(rules)))
    return modules


def walk(module, state, stack, limit):
    """Runs step by step. Returns how the run ends, and the configurations, at most so many as the limit."""
    table = {rule[:2]: rule[2:] for rule in module[4]}
    seen = []
    while len(seen) < limit:
        seen.append((state, stack))
        head = (state, stack[0] if stack else "")
        if head not in table:
            return ("stuck",), seen
        target, push = table[head]
        stack = push + stack[1:]
        if isinstance(target, str):
            return ("exit", target, stack), seen
        state = target
    return ("open",), seen


def walk_head(module, state, top, limit):
    """The summary and the visited heads by single steps; a run longer than the limit is taken for endless."""
    table = {rule[:2]: rule[2:] for rule in module[4]}
    stack = (top,) if top else ()
    visited = set()
    for ticks in range(limit):
        if not stack and top:
            return ("pop", state, ticks), tuple(sorted(visited))
        head = (state, stack[0] if stack else "")
        visited.add(head)
        if head not in table:
            return ("never",), tuple(sorted(visited))
        state, push = table[head]
        stack = push + stack[1:]
        if isinstance(state, str):
            return ("exit", state, stack, ticks + 1), tuple(sorted(visited))
    return ("never",), tuple(sorted(visited))


def walk_result(module, state, stack, limit):
    end, seen = walk(module, state, stack, limit)
    return (end[1], end[2], len(seen)) if end[0] == "exit" else None


def chain(heads, last):
    """A module of a hundred states and twelve labels in which a head needs the next one, so many heads long.

    The last head has the target and the push of `last`. The chain goes through the label heads, and is
    preceded by those of the empty stack if it is longer than these are many.
    """
    labels = tuple("abcdefghijkl")
    row = [(state, label) for state in range(100) for label in labels]
    row = ([(state, "") for state in range(100)] + row)[-heads:] if heads > 1200 else row[:heads]
    rules = [row[-1] + last]
    for head, needed in zip(row, row[1:]):
        rules.append(head + (needed[0], (needed[1],) if needed[1] else ()))
    entries = (("in", row[0][0]),)
    return (labels, 100, entries, ("out",), tuple(sorted(rules))), row
