"""A workshop of modules that can be edited, and links that follow their edits."""

from piledoors.compare.equivalence import find_separating, require_comparable
from piledoors.errors import (InvalidEdit, InvalidModule, InvalidNumber, InvalidRule, NameConflict, NothingToUndo,
                              TooLarge, UnknownModule)
from piledoors.interfaces.interfaces import interface_of
from piledoors.linking.link import linked, require_linkable, ways_of_wires
from piledoors.modules.modules import (fits_module, is_module, require_labels, require_stack, require_state,
                                       require_top, start_of)
from piledoors.results.results import laid_bare, result_behind
from piledoors.values import is_name, is_whole
from piledoors.workshop.stored import changes_in_link, stored_module

MAX_MODULES = 20
ADD = "add"
LINK = "link"
REMOVE = "remove"
SET = "set"
CLEAR = "clear"
LENGTHS = {"add": 3, "link": 6, "remove": 2, "set": 6, "clear": 4}


class Workshop:
    """Modules under names, which are edited.

    After each edit there is another dict from names to what is stored under them, in which a link stands behind its
    parts. These dicts are kept, and never changed, so that edits can be undone and redone.
    """

    def __init__(self, labels):
        require_labels(labels)
        self._labels = labels
        self._edits = []
        self._contents = [{}]
        self._standing = 0
        self._computed = 0

    def __len__(self):
        return len(self._contents[self._standing])

    def __str__(self):
        return f"workshop with {len(self)} modules, {self._standing} edits"

    def __eq__(self, other):
        if not isinstance(other, Workshop):
            return False
        return self._labels == other._labels and self._definitions() == other._definitions()

    def labels(self):
        """Returns the labels of all modules."""
        return self._labels

    def names(self):
        """Returns the names of all modules, ascending."""
        return tuple(sorted(self._stored()))

    def log(self):
        """Returns the edits that stand, in order."""
        return tuple(self._edits[:self._standing])

    def computed(self):
        """Returns how many summaries have been computed so far."""
        return self._computed

    def add(self, name, module):
        """Adds an own module."""
        require_name(name)
        if not (is_module(module) and module[0] == self._labels):
            raise InvalidModule("not a module, or with other labels than the workshop")
        self._require_room(name)
        self._put((ADD, name, module), name, stored_module(module, None, None))

    def remove(self, name):
        """Removes a module."""
        if self.users(name):
            raise InvalidEdit("the module is a part of a link")
        contents = {each: stored for each, stored in self._stored().items() if each != name}
        self._stand((REMOVE, name), contents, 0)

    def set_rule(self, name, state, top, target, push):
        """Gives an own module a rule, in the place of one with the same head."""
        own = self._find_own(name)
        rule = (state, top, target, push)
        if not fits_module(own.outline, rule):
            raise InvalidRule("the rule does not fit the module")
        self._change((SET, name) + rule, name, (state, top), (target, push))

    def clear_rule(self, name, state, top):
        """Removes a rule of an own module."""
        own = self._find_own(name)
        require_state(own.outline, state)
        require_top(own.outline, top)
        if own.rule(state, top) is None:
            raise InvalidRule("the module has no rule with this head")
        self._change((CLEAR, name, state, top), name, (state, top), None)

    def link(self, name, first, second, wires, *, kept=()):
        """Adds a link of two modules, which are given by their names."""
        require_name(name)
        modules = [self.module(first), self.module(second)]
        require_linkable(modules[0], modules[1], wires, kept)
        self._require_room(name)
        definition = (first, second, wires, kept)
        stored = stored_module(linked(modules, wires, kept), definition, ways_of_wires(modules, wires))
        self._put((LINK, name) + definition, name, stored)

    def apply(self, edit):
        """Performs an edit."""
        if not (isinstance(edit, tuple) and edit and isinstance(edit[0], str)):
            raise InvalidEdit("not an edit")
        if LENGTHS.get(edit[0]) != len(edit):
            raise InvalidEdit("no such edit, or not with so many parts")
        if edit[0] == ADD:
            self.add(edit[1], edit[2])
        elif edit[0] == LINK:
            self.link(edit[1], edit[2], edit[3], edit[4], kept=edit[5])
        elif edit[0] == REMOVE:
            self.remove(edit[1])
        elif edit[0] == SET:
            self.set_rule(edit[1], edit[2], edit[3], edit[4], edit[5])
        else:
            self.clear_rule(edit[1], edit[2], edit[3])

    def apply_all(self, edits):
        """Performs all edits, or none of them if one fails, and returns how many there are."""
        if not isinstance(edits, tuple):
            raise InvalidEdit("not a tuple of edits")
        trial = self.twin()
        for edit in edits:
            trial.apply(edit)
        self._take_over(trial)
        return len(edits)

    def undo(self, *, many=1):
        """Undoes the last edits that stand."""
        require_many(many, self._standing)
        self._standing = self._standing - many

    def redo(self, *, many=1):
        """Redoes the last undone edits."""
        require_many(many, len(self._edits) - self._standing)
        self._standing = self._standing + many

    def module(self, name):
        """Returns the module with this name."""
        return self._find(name).module()

    def result(self, name, entry, stack):
        """Returns the result of the module, or None if control never leaves."""
        stored = self._find(name)
        state = start_of(stored.outline, entry)
        require_stack(stored.outline, stack)
        return result_behind(stored, stack, laid_bare(stored, state, stack)[-1])

    def summary(self, name, state, top):
        """Returns the summary of a head of the module."""
        stored = self._find(name)
        require_state(stored.outline, state)
        require_top(stored.outline, top)
        return stored.summary((state, top))

    def interface(self, name, *, clock=False):
        """Returns the interface of the module."""
        return interface_of(self.module(name), clock)

    def equivalent(self, first, second, *, clock=False):
        """Returns whether two modules are equivalent."""
        one = self.module(first)
        two = self.module(second)
        require_comparable(one, two)
        return find_separating(one, two, clock) is None

    def users(self, name):
        """Returns the names of the links that have the module as a part, ascending."""
        self._find(name)
        parts = {name: True}
        for each, stored in self._stored().items():
            if stored.definition is not None and (stored.definition[0] in parts or stored.definition[1] in parts):
                parts[each] = True
        return tuple(sorted([each for each in parts if each != name]))

    def twin(self):
        """Returns an independent workshop that is like this one."""
        other = Workshop(self._labels)
        other._take_over(self)
        return other

    def _take_over(self, other):
        """Becomes like the other workshop."""
        self._edits = list(other._edits)
        self._contents = list(other._contents)
        self._standing = other._standing
        self._computed = other._computed

    def _stored(self):
        """Returns the dict from names to what is stored under them now."""
        return self._contents[self._standing]

    def _definitions(self):
        """Returns a dict from each name to the own module or the definition of the link."""
        return {name: (stored.definition, stored.module() if stored.definition is None else None)
                for name, stored in self._stored().items()}

    def _find(self, name):
        """Returns what is stored under this name, which may be any value."""
        if not (isinstance(name, str) and name in self._stored()):
            raise UnknownModule(name)
        return self._stored()[name]

    def _find_own(self, name):
        """Returns the own module that is stored under this name."""
        stored = self._find(name)
        if stored.definition is not None:
            raise InvalidEdit("the module is a link")
        return stored

    def _require_room(self, name):
        """Raises an error if no module can be added under this name."""
        if name in self._stored():
            raise NameConflict(name)
        if len(self) == MAX_MODULES:
            raise TooLarge(MAX_MODULES)

    def _put(self, edit, name, stored):
        """Performs an edit that puts a module, all of whose summaries are new, under a name."""
        contents = dict(self._stored())
        contents[name] = stored
        self._stand(edit, contents, stored.outline[1] * len(stored.tops()))

    def _change(self, edit, name, head, told):
        """Performs an edit of the rule with this head, in the module and in the links that have it as a part."""
        contents = dict(self._stored())
        changes = {name: {head: told}}
        total = 0
        for each, stored in self._stored().items():
            if stored.definition is not None:
                changes[each] = changes_in_link(stored, contents[stored.definition[0]].outline[1], changes)
            if changes.get(each):
                contents[each], many = stored.changed(changes[each])
                total = total + many
        self._stand(edit, contents, total)

    def _stand(self, edit, contents, many):
        """Lets an edit stand that leads to these contents, for which so many summaries were computed."""
        self._edits = self._edits[:self._standing] + [edit]
        self._contents = self._contents[:self._standing + 1] + [contents]
        self._standing = self._standing + 1
        self._computed = self._computed + many


# What follows is for the package.


def require_name(name):
    """Raises an error if this is not a name."""
    if not is_name(name):
        raise InvalidEdit("not a name")


def require_many(many, most):
    """Raises an error if this is not a number of edits from 1 to the most that there are."""
    if not (is_whole(many) and many >= 1):
        raise InvalidNumber(many)
    if many > most:
        raise NothingToUndo(many)
