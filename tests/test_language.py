"""The rules of the language that can be read off the text of the package."""

import ast
import pathlib
import unittest

PACKAGE = pathlib.Path(__file__).resolve().parent.parent / "piledoors"
BUILTINS = set("len range enumerate zip min max sum abs sorted reversed int str bool list tuple dict set isinstance ord "
               "repr any all divmod type".split())
ERRORS = set("ValueError KeyError IndexError LookupError ArithmeticError OverflowError RuntimeError".split())
METHODS = set("append clear copy count endswith extend find get index insert isalpha isascii isdigit islower items join "
              "keys partition pop reverse setdefault split startswith update values bit_length".split())
# Methods of own classes that have the names of methods of builtin values.
SHARED = {"__init__", "__eq__", "__len__", "__str__", "add", "remove"}
KINDS = ("", 0, [], {}, (), set(), b"")
# A smaller language than the rules allow, so that it is easy to check.
NODES = (ast.Module, ast.Expr, ast.Constant, ast.ImportFrom, ast.alias, ast.FunctionDef, ast.ClassDef, ast.arguments,
         ast.arg, ast.Assign, ast.Name, ast.Load, ast.Store, ast.Return, ast.If, ast.For, ast.While, ast.Break,
         ast.Continue, ast.Raise, ast.Call, ast.keyword, ast.Attribute, ast.Subscript, ast.Slice, ast.Tuple, ast.List,
         ast.Dict, ast.ListComp, ast.DictComp, ast.comprehension, ast.BoolOp, ast.And, ast.Or, ast.UnaryOp, ast.Not,
         ast.USub, ast.BinOp, ast.Add, ast.Sub, ast.Mult, ast.FloorDiv, ast.Mod, ast.Pow, ast.Compare, ast.Eq, ast.NotEq,
         ast.Lt, ast.LtE, ast.Gt, ast.GtE, ast.Is, ast.IsNot, ast.In, ast.NotIn, ast.IfExp, ast.Lambda, ast.JoinedStr,
         ast.FormattedValue, ast.Pass)
BARRED = set("mro elements open input law register id dir vars exit help quit compile eval exec next iter map filter "
             "hash round super object format".split())
INTERFACE = {
    "errors": "PileError InvalidLabels InvalidStack InvalidModule InvalidRule InvalidInterface InvalidWires InvalidBlocks "
              "InvalidContext InvalidProgram InvalidEdit InvalidClaim ParseError InvalidCommand UnknownEntry UnknownState "
              "InvalidNumber UnknownModule NameConflict TooLarge NotEquivalent NothingToUndo",
    "modules/modules": "EMPTY MAX_LABELS MAX_STATES MAX_DOORS MAX_PUSH is_labels(value) is_module(value) "
                       "is_stack(labels,value) is_rule(module,value) make_module(labels,size,*,entries=,exits=,rules=) "
                       "rule_heads(module) rule_at(module,state,top) start_state(module,entry) with_rule(module,rule) "
                       "without_rule(module,state,top)",
    "runs/runs": "MAX_TRACE step(module,state,stack) trace(module,entry,stack,*,limit=) is_trace(module,entry,stack,value)",
    "runs/moments": "MAX_TICK moment(module,entry,stack,tick) fate(module,entry,stack) is_fate(module,entry,stack,value)",
    "summaries/summaries": "summary(module,state,top) summaries(module) visited_heads(module,state,top) "
                           "is_summary_paper(module,value)",
    "results/results": "descent(module,entry,stack) result(module,entry,stack)",
    "stacks/blocks": "MAX_TIMES MAX_SPELLED is_blocks(labels,value) blocks_length(labels,blocks) "
                     "label_at(labels,blocks,position) spelled(labels,blocks) same_stack(labels,first,second) "
                     "dropped(labels,blocks,many)",
    "results/long": "result_of_blocks(module,entry,blocks)",
    "interfaces/settled": "leaving_stack(module,state) settled(module,state,*,clock=) "
                          "refutation(module,state,claim,*,clock=)",
    "interfaces/interfaces": "interface(module,*,clock=) is_interface(value) interface_result(interface,entry,stack)",
    "compare/equivalence": "reading(module,state,top,*,clock=) are_equivalent(first,second,*,clock=) "
                           "separating_stack(first,second,*,clock=) likeness(first,second,*,clock=) "
                           "is_likeness(first,second,value,*,clock=)",
    "compare/slowdown": "slowdown(first,second) is_slowdown(first,second,value)",
    "interfaces/realize": "state_count(interface) least_module(interface) least_form(module)",
    "procedures/programs": "is_program(labels,value) is_system(labels,value)",
    "procedures/plain": "answer(labels,system,procedure,inputs) calls_made(labels,system,procedure,inputs,*,limit=)",
    "procedures/compiler": "program_module(labels,program) system_module(labels,system)",
    "workshop/workshop": "MAX_MODULES Workshop",
    "text/formats": "MAX_DIGITS format_stack(labels,stack) parse_stack(labels,text) format_rule(rule) parse_rule(text) "
                    "format_wires(wires) parse_wires(text) format_result(result) parse_result(text) format_module(module) "
                    "parse_module(text) format_interface(interface) parse_interface(text)",
    "text/shell": "Shell",
    "compare/replacement": "may_replace(old,new) replacement_gap(old,new) replacement(old,new) is_replacement(old,new,value)",
    "linking/link": "is_wires(first,second,value) link(first,second,wires,*,kept=) link_self(module,wires,*,kept=) "
                    "rename(module,*,entries=,exits=)",
    "linking/contexts": "is_context(module,value) context_outcome(module,context) separating_context(first,second,*,clock=)",
    "linking/interfaces": "link_interfaces(first,second,wires,*,kept=) link_self_interface(interface,wires,*,kept=) "
                          "rename_interface(interface,*,entries=,exits=)",
}
CLASSES = {
    "workshop/workshop": ("Workshop", "__init__(self,labels) __len__(self) __str__(self) __eq__(self,other) labels(self) "
                          "names(self) log(self) computed(self) add(self,name,module) remove(self,name) "
                          "set_rule(self,name,state,top,target,push) clear_rule(self,name,state,top) "
                          "link(self,name,first,second,wires,*,kept=) apply(self,edit) apply_all(self,edits) "
                          "undo(self,*,many=) redo(self,*,many=) module(self,name) result(self,name,entry,stack) "
                          "summary(self,name,state,top) interface(self,name,*,clock=) "
                          "equivalent(self,first,second,*,clock=) users(self,name) twin(self)"),
    "text/shell": ("Shell", "__init__(self,labels) __len__(self) __str__(self) __eq__(self,other) history(self) "
                   "workshop(self) run(self,command) run_all(self,commands)"),
}


def sources():
    return {path: path.read_text(encoding="utf-8") for path in sorted(PACKAGE.rglob("*.py"))}


def trees():
    return {path: ast.parse(text) for path, text in sources().items()}


class LanguageTest(unittest.TestCase):
    def test_files(self):
        for path in PACKAGE.rglob("*"):
            if "__pycache__" not in path.parts:
                self.assertTrue(path.is_dir() or path.suffix == ".py", path)
            if path.is_dir() and path.name != "__pycache__":
                self.assertTrue((path / "__init__.py").exists(), path)
                self.assertFalse(path.with_suffix(".py").exists(), path)

    def test_lines(self):
        for path, text in sources().items():
            self.assertTrue(all(letter == "\n" or " " <= letter <= "~" for letter in text), path)
            lines = text.split("\n")
            self.assertLess(len(lines), 400, path)
            self.assertLessEqual(max(len(line) for line in lines), 120, path)

    def test_statements(self):
        for path, tree in trees().items():
            for node in ast.walk(tree):
                self.assertIsInstance(node, NODES, f"{path}:{getattr(node, 'lineno', 0)}")
                if isinstance(node, ast.FunctionDef):
                    self.assertLessEqual(node.end_lineno - node.lineno + 1, 40, (path, node.name))
                    self.assertEqual(node.decorator_list, [])
                if isinstance(node, ast.ImportFrom):
                    self.assertTrue(node.module.startswith("piledoors.") and node.level == 0, path)
                    self.assertTrue(all(part.asname is None and part.name != "*" for part in node.names), path)
            for node in tree.body:
                self.assertIsInstance(node, (ast.Expr, ast.ImportFrom, ast.Assign, ast.FunctionDef, ast.ClassDef), path)

    def test_names(self):
        for path, tree in trees().items():
            bound = [name for node in tree.body for name in self.bound_by(node)]
            self.assertEqual(len(bound), len(set(bound)), path)
            imported = {part.name for node in tree.body if isinstance(node, ast.ImportFrom) for part in node.names}
            for node in ast.walk(tree):
                if isinstance(node, ast.Name):
                    self.assertNotIn(node.id, BARRED, path)
                    if isinstance(node.ctx, ast.Store):
                        self.assertNotIn(node.id, imported | BUILTINS | ERRORS, path)
                if isinstance(node, ast.arg):
                    self.assertNotIn(node.arg, imported | BUILTINS | ERRORS | BARRED, path)
            used = {node.id for node in ast.walk(tree) if isinstance(node, ast.Name)}
            self.assertLessEqual(imported, used, path)

    def bound_by(self, node):
        if isinstance(node, ast.ImportFrom):
            return [part.name for part in node.names]
        if isinstance(node, ast.Assign):
            return [target.id for target in node.targets]
        return [node.name] if isinstance(node, (ast.FunctionDef, ast.ClassDef)) else []

    def test_calls(self):
        methods = {node.name for tree in trees().values() for each in ast.walk(tree) if isinstance(each, ast.ClassDef)
                   for node in each.body if isinstance(node, ast.FunctionDef)}
        self.assertEqual({name for name in methods if [kind for kind in KINDS if hasattr(kind, name)]}, SHARED)
        for path, tree in trees().items():
            known = {name for node in tree.body for name in self.bound_by(node)} | BUILTINS | ERRORS | self.from_tables(tree)
            for node in ast.walk(tree):
                if isinstance(node, ast.Call) and isinstance(node.func, ast.Name):
                    self.assertIn(node.func.id, known, f"{path}:{node.lineno}")
                if isinstance(node, ast.Call) and isinstance(node.func, ast.Attribute):
                    self.assertIn(node.func.attr, METHODS | methods, f"{path}:{node.lineno}")

    def from_tables(self, tree):
        """The local names of functions that are taken out of a table at module level."""
        tables = {node.targets[0].id for node in tree.body if isinstance(node, ast.Assign) and isinstance(node.value, ast.Dict)}
        return {node.targets[0].id for node in ast.walk(tree) if isinstance(node, ast.Assign)
                and isinstance(node.value, ast.Subscript) and getattr(node.value.value, "id", None) in tables}

    def test_identity(self):
        """Only None, True and False are compared by `is`."""
        for path, tree in trees().items():
            for node in ast.walk(tree):
                if isinstance(node, ast.Compare) and [each for each in node.ops if isinstance(each, (ast.Is, ast.IsNot))]:
                    self.assertIsInstance(node.comparators[0], ast.Constant, f"{path}:{node.lineno}")

    def test_types_are_only_compared(self):
        for path, tree in trees().items():
            compared = [node.left for node in ast.walk(tree) if isinstance(node, ast.Compare) and len(node.ops) == 1
                        and isinstance(node.ops[0], (ast.Eq, ast.NotEq)) and isinstance(node.comparators[0], ast.Name)
                        and node.comparators[0].id in ("int", "str")]
            for node in ast.walk(tree):
                if isinstance(node, ast.Call) and isinstance(node.func, ast.Name) and node.func.id == "type":
                    self.assertIn(node, compared, f"{path}:{node.lineno}")

    def test_imports(self):
        """Names come from the very file that defines them, and no two files import from each other."""
        files = {".".join(path.relative_to(PACKAGE.parent).with_suffix("").parts): tree for path, tree in trees().items()}
        imports = {name: [node for node in tree.body if isinstance(node, ast.ImportFrom)] for name, tree in files.items()}
        for name, nodes in imports.items():
            for node in nodes:
                defined = [each for part in files[node.module].body if not isinstance(part, ast.ImportFrom)
                           for each in self.bound_by(part)]
                self.assertLessEqual({part.name for part in node.names}, set(defined), (name, node.module))
        left = {name: {node.module for node in nodes} for name, nodes in imports.items()}
        while left:
            free = [name for name, modules in left.items() if not modules & set(left)]
            self.assertNotEqual(free, [], left)
            left = {name: modules for name, modules in left.items() if name not in free}

    def test_attributes(self):
        """No attribute has the name of a method of its class, or of a method of a builtin value."""
        for path, tree in trees().items():
            for each in [node for node in tree.body if isinstance(node, ast.ClassDef)]:
                methods = {node.name for node in each.body if isinstance(node, ast.FunctionDef)}
                for node in ast.walk(each):
                    if isinstance(node, ast.Attribute) and isinstance(node.ctx, ast.Store):
                        self.assertNotIn(node.attr, methods, path)
                        self.assertFalse([kind for kind in KINDS if hasattr(kind, node.attr)], node.attr)

    def test_module_level(self):
        """Only plain values stand there, and functions that are defined above."""
        for path, tree in trees().items():
            defined = set()
            for node in tree.body:
                if isinstance(node, ast.FunctionDef):
                    defined.add(node.name)
                if isinstance(node, ast.Assign):
                    self.assertEqual(len(node.targets), 1, path)
                    self.assertFalse([part for part in ast.walk(node.value) if isinstance(part, ast.Call)], path)
                    self.assertLessEqual({part.id for part in ast.walk(node.value) if isinstance(part, ast.Name)}, defined, path)

    def test_interface(self):
        for name, members in INTERFACE.items():
            tree = trees()[PACKAGE / (name + ".py")]
            bound = [each for node in tree.body if not isinstance(node, ast.ImportFrom) for each in self.bound_by(node)]
            functions = {node.name: node for node in tree.body if isinstance(node, ast.FunctionDef)}
            for member in members.split():
                plain, _, parameters = member.partition("(")
                self.assertIn(plain, bound)
                if parameters:
                    self.assertEqual(self.signature(functions[plain].args), parameters[:-1], member)
            for node in tree.body:
                if isinstance(node, (ast.FunctionDef, ast.ClassDef)):
                    self.assertTrue(ast.get_docstring(node), node.name)

    def test_classes(self):
        """Each method stands in the class itself."""
        for name, (kind, methods) in CLASSES.items():
            tree = trees()[PACKAGE / (name + ".py")]
            body = [node for node in tree.body if isinstance(node, ast.ClassDef) and node.name == kind][0].body
            functions = {node.name: node for node in body if isinstance(node, ast.FunctionDef)}
            for member in methods.split():
                plain, _, parameters = member.partition("(")
                self.assertEqual(self.signature(functions[plain].args), parameters[:-1], member)
            self.assertEqual([each for each in functions if not each.startswith("_")],
                             [member.partition("(")[0] for member in methods.split() if not member.startswith("_")])

    def test_sets(self):
        """No set is stored or iterated, as classes of the package have a method called add."""
        for path, tree in trees().items():
            for node in ast.walk(tree):
                self.assertNotIsInstance(node, (ast.Set, ast.SetComp, ast.GeneratorExp), path)
                if isinstance(node, ast.Call) and isinstance(node.func, ast.Name):
                    self.assertNotEqual(node.func.id, "set", path)

    def signature(self, args):
        self.assertEqual((args.vararg, args.kwarg, args.posonlyargs, args.defaults), (None, None, [], []))
        parts = [arg.arg for arg in args.args] + (["*"] if args.kwonlyargs else [])
        return ",".join(parts + [arg.arg + ("=" if default else "") for arg, default in zip(args.kwonlyargs, args.kw_defaults)])


if __name__ == "__main__":
    unittest.main()
