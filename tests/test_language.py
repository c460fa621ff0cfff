"""The interface as the document lists it, and the plainer ones of the rules of the language."""

import ast
import builtins
import importlib
import inspect
import pathlib
import re
import unittest

FOLDER = pathlib.Path(__file__).parent.parent / "partedmeet"
# In the order in which they stand in the document: a module uses only those above it.
INTERFACE = {
    "errors": "",
    "forms": "is_integer(thing) is_name(thing) is_fraction(thing) is_dealing(thing) is_standing(dealing,thing) "
    "is_deed(thing) are_deeds(thing) is_lot(dealing,thing) reduced(num,den)",
    "dealings": "parties_of(dealing) rounds_of(dealing) lot_of(dealing,name) words_of(dealing,name) "
    "rounds_with(dealing,party) all_deeds(dealing) chooser_of(dealing,name) next_of(dealing,name,word,party) "
    "nexts_of(dealing,name,word) wants(dealing,name,party) dealing_fault(parties,rounds) made_dealing(parties,rounds) "
    "with_round(dealing,part) without_round(dealing,name) with_result(dealing,name,word,nexts) "
    "without_result(dealing,name,word)",
    "dealingtexts": "dealing_text(dealing) read_dealing(text)",
    "standings": "first_standing(dealing) end_standing(dealing) done(dealing,standing,deed) place_of(standing,party) "
    "open_rounds(dealing,standing) deeds_of(dealing,standing) can_be_done(dealing,standing,deed)",
    "runs": "run(dealing,standing,deeds) traced(dealing,standing,deeds) is_run(dealing,standing,thing) "
    "are_apart(dealing,one,other) same_rope(dealing,one,other) met(dealing) part_of(dealing,deeds,party) "
    "least_rope(dealing,deeds) met_runs(dealing) depth_of(dealing,deeds)",
    "ways": "distance(dealing,name) distances(dealing) is_road(dealing,party,thing) is_way(dealing,thing) led(dealing) "
    "road_length(dealing,party,name) road_rounds(dealing,party,name) shortest_road(dealing,party,name,other) "
    "shortest_way(dealing,one,other) steps(dealing,name)",
    "homeward": "choices(dealing) home_deeds(dealing,standing) home_run(dealing)",
    "dates": "ahead(dealing,name,word,one,other) are_meetings(dealing,name,word,one,other,thing) "
    "date(dealing,name,word,one,other) date_fault(dealing) dates(dealing) is_single(dealing,name,word,one,other) "
    "meetings(dealing,name,word,one,other) road_to_meeting(dealing,name,word,one,other,meeting)",
    "knots": "circle_through(dealing,knot) head_of(dealing,lot) heads_of(dealing,circle) is_circle(dealing,thing) "
    "knots(dealing,lot)",
    "headtrees": "head_tree(dealing) headless(dealing) is_head_tree(dealing,thing) tree_of(dealing,lot)",
    "sound": "fault(dealing) is_sound(dealing) is_sound_slowly(dealing)",
    "certificates": "certificate(dealing) flaw(dealing,standing) is_certificate(dealing,thing) "
    "is_ring(dealing,standing,thing) led_to(dealing,way) ring(dealing,standing) wall(dealing,standing,party) "
    "walled(dealing,standing,party,thing)",
    "rules": "is_rule(dealing,thing) is_bare(dealing) rules_of(dealing) applied(dealing,rule)",
    "rulerows": "applied_row(dealing,row) is_rule_row(dealing,thing) rule_row(dealing)",
    "grown": "is_growth(dealing,thing) is_grown_row(dealing,thing) grown(dealing,growth) grown_row(dealing,row) "
    "backwards(dealing,rule) grow_row(dealing)",
    "prices": "sum_of(prices,deeds) least_sum(dealing,prices) greatest_sum(dealing,prices) least_run(dealing,prices) "
    "greatest_run(dealing,prices) sums_slowly(dealing,prices)",
    "chances": "are_chances(dealing,thing) chance_of(chances,deeds) expected_sum(dealing,prices,chances) "
    "expected_by_rules(dealing,prices,chances) visits(dealing,chances)",
    "counted": "is_endless(dealing) many_ropes(dealing) all_ropes(dealing)",
    "games": "forced(dealing,ours) can_force(dealing,ours) can_force_slowly(dealing,ours,is_foe) "
    "is_plan(dealing,ours,thing) is_refusal(dealing,ours,thing) plan(dealing,ours) refusal(dealing,ours)",
    "together": "seat_table(dealing) all_together(dealing) open_together(dealing,one,other) "
    "open_together_slowly(dealing,one,other) together_run(dealing,one,other)",
    "sheets": "is_use(dealing,thing) is_race_run(dealing,use,race,thing) is_unwritten_run(dealing,use,sheet,thing) "
    "races(dealing,use) sources(dealing,use,deeds) race_run(dealing,race) unwritten_run(dealing,use,sheet)",
    "leastforms": "alike_classes(dealing) least_form(dealing) is_least(dealing) are_alike(one,other)",
    "parting": "is_likeness(one,other,thing) is_parting(one,other,thing) is_trace(dealing,thing) trace_of(dealing,deeds) "
    "likeness(one,other) parting(one,other)",
    "nested": "put_in(dealing,name,word,inner,names) followed(dealing,party,name) without_party(dealing,party)",
    "mending": "struck(dealing,deeds) is_mending(dealing,thing) least_mending(dealing)",
    "books": "book_of(dealing,party) books(dealing) heard(member,answer) joined(books) letter(member,word) "
    "member_at_first(dealing,party) place(member) words_at(member)",
    "house": "House(dealing)",
    "logs": "reopened(dealing,text) whole_lines(text)",
    "kept": "Kept(dealing)",
    "desk": "Desk(dealing)",
}
# What stands in the body of each class itself.
CLASSES = {
    "House": "ask(party,number,word) chosen() counts() deeds() here() log() standing() twin()",
    "Kept": "dealing() edit(thing) undo() redo() would(thing) edits() certificate() rows() twin() __eq__(other)",
    "Desk": "execute(line) kept() deeds() twin() __eq__(other)",
}
LIBRARY = {"itertools": {"combinations"}, "math": {"gcd", "lcm", "isqrt", "comb", "perm", "factorial"}, "heapq": {"heappush", "heappop", "heapify"}}
BUILTINS = set(
    "len range enumerate zip min max sum abs sorted reversed int str bool list tuple dict set isinstance ord repr any "
    "all divmod ValueError KeyError".split()
)
METHODS = set(
    "append clear copy count endswith extend find get index insert isalnum isalpha isdigit islower isspace isupper "
    "items join keys ljust lower lstrip partition pop remove replace reverse rfind rjust rpartition rsplit rstrip "
    "setdefault split splitlines startswith strip update upper values zfill add discard".split()
)
BARRED = set(
    "type typing typing_extensions enum Enum IntEnum StrEnum Flag IntFlag Generic Protocol ABC ABCMeta namedtuple "
    "NamedTuple TypedDict TYPE_CHECKING abstractmethod dataclass overload contextmanager register mro elements open "
    "input law _wall _WallAttr".split()
)
CHANGING = {"append", "clear", "extend", "insert", "pop", "remove", "reverse", "setdefault", "update", "add", "discard"}
STATEMENTS = (
    ast.Assign, ast.AugAssign, ast.If, ast.While, ast.For, ast.Return, ast.Break, ast.Continue, ast.Pass, ast.Raise,
    ast.Assert, ast.Delete, ast.Try, ast.Expr, ast.FunctionDef, ast.ClassDef, ast.ImportFrom,
)


def sources():
    return {path.stem: path.read_text(encoding="utf-8") for path in sorted(FOLDER.glob("*.py"))}


def bound_names(tree):
    """all names that are bound anywhere in a file, with the node that binds each"""
    found = []
    for node in ast.walk(tree):
        if isinstance(node, ast.Name) and isinstance(node.ctx, ast.Store):
            found.append((node.id, node))
        if isinstance(node, ast.arg):
            found.append((node.arg, node))
        if isinstance(node, (ast.FunctionDef, ast.ClassDef)):
            found.append((node.name, node))
        if isinstance(node, ast.alias):
            found.append((node.name, node))
    return found


def is_set(node):
    is_call = isinstance(node, ast.Call) and isinstance(node.func, ast.Name) and node.func.id == "set"
    return is_call or isinstance(node, (ast.SetComp, ast.Set))


class Interface(unittest.TestCase):
    def test_names_and_arguments(self):
        for name, listed in INTERFACE.items():
            module = importlib.import_module("partedmeet." + name)
            for signature in listed.split():
                function, arguments = signature.rstrip(")").split("(")
                found = getattr(module, function)
                self.assertEqual(found.__module__, "partedmeet." + name)
                self.assertEqual(",".join(inspect.signature(found).parameters), arguments, signature)

    def test_methods(self):
        for name in INTERFACE:
            module = importlib.import_module("partedmeet." + name)
            for listed in [part for part in CLASSES if part.lower() == name]:
                found = getattr(module, listed)
                self.assertEqual([found.__module__, found.__bases__], ["partedmeet." + name, (object,)])
                for signature in CLASSES[listed].split():
                    method, arguments = signature.rstrip(")").split("(")
                    given = ",".join(inspect.signature(vars(found)[method]).parameters)
                    self.assertEqual(given, ",".join(["self"] + [arguments] * bool(arguments)), signature)

    def test_files(self):
        found = {path.name for path in FOLDER.iterdir() if path.name != "__pycache__"}
        self.assertEqual(found, {name + ".py" for name in INTERFACE} | {"__init__.py"})
        self.assertEqual((FOLDER / "__init__.py").read_bytes(), b"")


class Language(unittest.TestCase):
    def test_lines_and_sizes(self):
        for name, text in sources().items():
            self.assertLessEqual(len(text.splitlines()), 399, name)
            for line in text.splitlines():
                self.assertLessEqual(len(line), 120, name)
                self.assertEqual([sign for sign in line if not " " <= sign <= "~"], [], name)
            for node in ast.walk(ast.parse(text)):
                if isinstance(node, ast.FunctionDef):
                    self.assertLessEqual(node.end_lineno - node.lineno + 1, 40, node.name)

    def test_imports(self):
        order = list(INTERFACE)
        for name, text in sources().items():
            for node in ast.walk(ast.parse(text)):
                self.assertNotIsInstance(node, ast.Import)
                if isinstance(node, ast.ImportFrom):
                    names = {alias.name for alias in node.names}
                    self.assertEqual([alias.asname for alias in node.names], [None] * len(names))
                    if node.module in LIBRARY:
                        self.assertLessEqual(names, LIBRARY[node.module])
                    else:
                        package, module = node.module.split(".")
                        self.assertEqual(package, "partedmeet")
                        self.assertLess(order.index(module), order.index(name))
                        tree = ast.parse(sources()[module])
                        kinds = (ast.FunctionDef, ast.ClassDef)
                        defined = {part.name for part in tree.body if isinstance(part, kinds)}
                        defined |= {part.targets[0].id for part in tree.body if isinstance(part, ast.Assign)}
                        self.assertLessEqual(names, defined, name)
                        self.assertEqual([part for part in names if part.startswith("_")], [])

    def test_imports_are_used(self):
        for name, text in sources().items():
            tree = ast.parse(text)
            imported = {alias.name for node in tree.body if isinstance(node, ast.ImportFrom) for alias in node.names}
            used = {node.id for node in ast.walk(tree) if isinstance(node, ast.Name)}
            self.assertLessEqual(imported, used, name)

    def test_own_functions_are_used(self):
        used = set()
        for text in sources().values():
            used |= {node.id for node in ast.walk(ast.parse(text)) if isinstance(node, ast.Name)}
        listed = {part.split("(")[0] for row in INTERFACE.values() for part in row.split()}
        for name, text in sources().items():
            for node in ast.parse(text).body:
                if isinstance(node, ast.FunctionDef):
                    self.assertIn(node.name, used | listed, name)

    def test_module_level(self):
        for name, text in sources().items():
            for node in ast.parse(text).body:
                if isinstance(node, ast.Assign):
                    self.assertIsInstance(ast.literal_eval(node.value), (int, str, tuple, dict))
                elif isinstance(node, ast.Expr):
                    self.assertIsInstance(node.value.value, str)
                else:
                    self.assertIsInstance(node, (ast.FunctionDef, ast.ClassDef, ast.ImportFrom), name)

    def test_names(self):
        barred = set(dir(builtins)) - {"_"} | {"sys", "os", "gc", "importlib", "methodcaller", "attrgetter"}
        for name, text in sources().items():
            tree = ast.parse(text)
            outer = {part.name for node in tree.body if isinstance(node, ast.ImportFrom) for part in node.names}
            outer |= {node.name for node in tree.body if isinstance(node, (ast.ClassDef, ast.FunctionDef))}
            # The interface itself calls the parameter of joined so.
            outer -= {"books"} if name == "books" else set()
            for bound, node in bound_names(tree):
                self.assertNotIn(bound, barred | BARRED, name)
                self.assertTrue(bound in ("__init__", "__eq__") or not bound.startswith("__"), bound)
                if isinstance(node, (ast.Name, ast.arg)):
                    self.assertNotIn(bound, outer, name)
            for node in ast.walk(tree):
                if isinstance(node, ast.Name) and isinstance(node.ctx, ast.Load):
                    self.assertNotEqual(node.id, "_")
                    if hasattr(builtins, node.id):
                        self.assertIn(node.id, BUILTINS, name)

    def test_words(self):
        for name, text in sources().items():
            for node in ast.walk(ast.parse(text)):
                if isinstance(node, ast.Constant):
                    self.assertIsInstance(node.value, (int, str, type(None)), name)
                    if isinstance(node.value, str):
                        self.assertNotIn("%", node.value)
            self.assertEqual(set(re.findall(r"\w+", text)) & (BARRED | {"chr", "global", "async", "eval"}), set(), name)

    def test_statements_and_methods(self):
        own = {"__init__"}
        for text in sources().values():
            for node in ast.walk(ast.parse(text)):
                if isinstance(node, ast.ClassDef):
                    own |= {part.name for part in node.body if isinstance(part, ast.FunctionDef)}
        for name, text in sources().items():
            for node in ast.walk(ast.parse(text)):
                if isinstance(node, ast.stmt):
                    self.assertIsInstance(node, STATEMENTS, name)
                if isinstance(node, (ast.FunctionDef, ast.ClassDef)):
                    self.assertEqual(node.decorator_list, [])
                if isinstance(node, ast.Call) and isinstance(node.func, ast.Attribute):
                    self.assertIn(node.func.attr, METHODS | own, name)
                    self.assertEqual(node.keywords, [])
                if isinstance(node, ast.Compare):
                    for sign, other in zip(node.ops, node.comparators):
                        if isinstance(sign, (ast.Is, ast.IsNot)):
                            self.assertIsNone(other.value)
                self.assertNotIsInstance(node, (ast.Div, ast.GeneratorExp, ast.YieldFrom, ast.Lambda, ast.NamedExpr))

    def test_sets_are_sorted_or_counted_at_once(self):
        for name, text in sources().items():
            tree = ast.parse(text)
            at_once = []
            for node in ast.walk(tree):
                if isinstance(node, ast.Call) and isinstance(node.func, ast.Name) and node.func.id in ("sorted", "len"):
                    at_once += node.args
            for node in ast.walk(tree):
                if is_set(node):
                    self.assertIn(node, at_once, name)

    def test_generators_are_iterated_at_once(self):
        trees = {name: ast.parse(text) for name, text in sources().items()}
        generators = set()
        for tree in trees.values():
            for node in tree.body:
                if isinstance(node, ast.FunctionDef) and [part for part in ast.walk(node) if isinstance(part, ast.Yield)]:
                    generators.add(node.name)
        for name, tree in trees.items():
            at_once = []
            for node in ast.walk(tree):
                if isinstance(node, (ast.For, ast.comprehension)) and isinstance(node.iter, ast.Call):
                    at_once.append(node.iter.func)
                if isinstance(node, ast.Call) and isinstance(node.func, ast.Name) and node.func.id in ("list", "tuple", "dict"):
                    at_once += [part.func for part in node.args if isinstance(part, ast.Call)]
            for node in ast.walk(tree):
                if isinstance(node, ast.Name) and node.id in generators:
                    self.assertIn(node, at_once, name)

    def test_views_and_zips_are_iterated_at_once(self):
        for name, text in sources().items():
            tree = ast.parse(text)
            at_once = []
            for node in ast.walk(tree):
                if isinstance(node, (ast.For, ast.comprehension)):
                    at_once.append(node.iter)
                if isinstance(node, ast.Call) and isinstance(node.func, ast.Name):
                    if node.func.id in ("list", "tuple", "dict", "sorted", "sum", "min", "max", "enumerate", "zip"):
                        at_once += node.args[:1]
            for node in ast.walk(tree):
                if isinstance(node, ast.Call):
                    told = node.func.id if isinstance(node.func, ast.Name) else getattr(node.func, "attr", "")
                    if told in ("zip", "enumerate", "range", "reversed", "items", "keys", "values"):
                        self.assertIn(node, at_once, name)

    def test_loops_leave_what_they_iterate_over(self):
        for name, text in sources().items():
            for loop in ast.walk(ast.parse(text)):
                if isinstance(loop, ast.For) and not self.is_copied(loop.iter):
                    over = {node.id for node in ast.walk(loop.iter) if isinstance(node, ast.Name)}
                    for part in loop.body:
                        self.assertEqual(over & self.changed(part), set(), name)

    def is_copied(self, node):
        """whether a loop goes over list(..) of a plain name"""
        is_list = isinstance(node, ast.Call) and isinstance(node.func, ast.Name) and node.func.id == "list"
        return is_list and isinstance(node.args[0], ast.Name)

    def changed(self, tree):
        """the names whose values a statement changes or that it binds anew"""
        found = set()
        for node in ast.walk(tree):
            if isinstance(node, ast.Call) and isinstance(node.func, ast.Attribute) and node.func.attr in CHANGING:
                found |= {part.id for part in ast.walk(node.func.value) if isinstance(part, ast.Name)}
            if isinstance(node, (ast.Subscript, ast.Name)) and isinstance(node.ctx, (ast.Store, ast.Del)):
                base = node.value if isinstance(node, ast.Subscript) else node
                found |= {part.id for part in ast.walk(base) if isinstance(part, ast.Name)}
        return found


if __name__ == "__main__":
    unittest.main()
