"""Looks for code that breaks the rules of the language, as far as its form tells.

The rules are narrower here than they need to be: what the package does not use is not allowed at all.
"""

import ast
import builtins
import re

LIBRARY = {"heapq": ("heappush", "heappop", "heapify", "heapreplace", "heappushpop"),
           "math": ("gcd", "lcm", "isqrt", "comb", "perm", "factorial"),
           "itertools": ("product", "combinations", "permutations")}
BUILTINS = set("""len range enumerate zip min max sum abs sorted reversed int str bool list tuple dict set isinstance ord repr any all divmod
ValueError KeyError NotImplemented property classmethod staticmethod""".split())
DUNDERS = set("__init__ __eq__ __str__ __len__ __add__ __mul__".split())
METHODS = set("""append clear copy count endswith extend find get index insert isalnum isalpha isdigit islower isspace isupper items join keys ljust
lower lstrip partition pop remove replace reverse rfind rjust rpartition rsplit rstrip setdefault split splitlines startswith strip update upper values
zfill bit_length removeprefix removesuffix rindex""".split())
NOT_ATTRIBUTES = set("""items keys values pop update append clear extend insert remove reverse setdefault sort args encode decode hex fromhex format
format_map mro""".split())
BARRED_NAMES = set("""register mro elements open input law version_info with_traceback add_note attrgetter breakpoint builtins compile copyright credits
delattr dir eval exec exit gc getattr globals hasattr help id importlib license locals methodcaller os quit setattr super type vars sys""".split())
BARRED_WORDS = """type typing typing_extensions enum Enum IntEnum StrEnum Flag IntFlag Generic Protocol ABC ABCMeta namedtuple NamedTuple TypedDict
TYPE_CHECKING abstractmethod""".split()
BARRED_STARTS = ("_wall", "_pe_", "_dcw_", "_enum_", "_cm_", "_twin_re_", "_lay_", "_law_", "_stub_", "_sre", "__")
AT_ONCE = ("list", "tuple", "dict", "sorted", "sum", "any", "all", "enumerate", "zip", "min", "max")
LAZY = ("zip", "enumerate", "reversed", "range")
VIEWS = ("items", "keys", "values")
NO_NODES = (ast.GeneratorExp, ast.SetComp, ast.Set, ast.AsyncFunctionDef, ast.AsyncFor, ast.AsyncWith, ast.Await, ast.Global, ast.Nonlocal, ast.Import,
            ast.Yield, ast.YieldFrom, ast.Delete, ast.With, ast.Match, ast.NamedExpr, ast.AnnAssign, ast.Lambda, ast.Div, ast.MatMult, ast.Assert)
COMPREHENSIONS = (ast.ListComp, ast.DictComp)


class Checker:
    """Finds the breaches of one file; all_methods are the names of the methods and functions of the whole package."""

    def __init__(self, name, text, all_methods, passed_on=(), told_attributes=()):
        self.name, self.text, self.all_methods, self.passed_on, self.told_attributes = name, text, all_methods, passed_on, told_attributes
        self.tree = ast.parse(text)
        self.found = []
        self.parents = {child: node for node in ast.walk(self.tree) for child in ast.iter_child_nodes(node)}

    def breach(self, rule, node, why):
        self.found.append(f"{self.name}:{getattr(node, 'lineno', 0)}: {rule}: {why}")

    def check(self):
        self.check_lines()
        self.check_module()
        for node in ast.walk(self.tree):
            self.check_node(node)
            for kind, check in ((ast.FunctionDef, self.check_function), (ast.ClassDef, self.check_class), (ast.Call, self.check_call),
                                (ast.Constant, self.check_constant), (ast.Compare, self.check_compare), (ast.Try, self.check_try),
                                (ast.Raise, self.check_raise), (ast.Attribute, self.check_attribute),
                                (COMPREHENSIONS, self.check_comprehension)):
                if isinstance(node, kind):
                    check(node)
        self.check_names()
        return self.found

    def check_lines(self):
        lines = self.text.split("\n")
        if len(lines) > 399:
            self.breach("L10", self.tree, "too many lines")
        for number, line in enumerate(lines, 1):
            if len(line) > 120 or not all(" " <= sign <= "~" for sign in line):
                self.found.append(f"{self.name}:{number}: L10 or L14: too long, or a character")
        code = "\n".join(line.split("#")[0] for line in re.sub('"""(.|\n)*?"""', "", self.text).split("\n"))
        for word in BARRED_WORDS:
            if re.search(rf"\b{word}\b", code):
                self.breach("L17", self.tree, word)

    def check_module(self):
        bound = []
        for at, node in enumerate(self.tree.body):
            if isinstance(node, ast.ImportFrom):
                self.check_import(node)
                bound += [one.name for one in node.names]
            elif isinstance(node, (ast.FunctionDef, ast.ClassDef)):
                bound.append(node.name)
            elif isinstance(node, ast.Assign):
                bound.append(node.targets[0].id)
                plain = (ast.Constant, ast.Tuple, ast.Load)
                # a table: a dict whose values may be functions that are defined above
                values = node.value.keys + node.value.values if isinstance(node.value, ast.Dict) else [node.value]
                above = {one.name for one in self.tree.body[:at] if isinstance(one, ast.FunctionDef)}
                if len(node.targets) != 1 or not all(isinstance(one, plain) or (isinstance(one, ast.Name) and one.id in above)
                                                     for value in values for one in ast.walk(value)):
                    self.breach("L3", node, "no plain value")
            elif not (at == 0 and isinstance(node, ast.Expr) and isinstance(node.value, ast.Constant)):
                self.breach("L3", node, "a statement")
        self.bound = bound
        if len(set(bound)) < len(bound):
            self.breach("L15", self.tree, "a name is bound twice")

    def check_import(self, node):
        names = [one.name for one in node.names]
        if node.level or any(one.asname for one in node.names):
            self.breach("L2", node, "no full names, or as")
        if node.module in LIBRARY:
            if not set(names) <= set(LIBRARY[node.module]):
                self.breach("L2", node, "the library")
        elif not node.module.startswith("allrows.") or any(name.startswith("_") or name == "*" for name in names):
            self.breach("L2", node, "an import")

    def check_node(self, node):
        if isinstance(node, NO_NODES):
            self.breach("L6 or L7", node, type(node).__name__)
        if isinstance(node, ast.BinOp) and isinstance(node.op, ast.Pow) and not isinstance(node.right, ast.Constant):
            self.breach("L27", node, "a power")
        if isinstance(node, ast.Subscript) and any(isinstance(one, ast.Starred) for one in ast.walk(node.slice)):
            self.breach("L7", node, "a star in an index")
        if isinstance(node, ast.JoinedStr) and any(isinstance(one, ast.FormattedValue) and one.format_spec for one in node.values):
            self.breach("L7", node, "a format")

    def check_function(self, node):
        if node.end_lineno - node.lineno + 1 + len(node.decorator_list) > 40:
            self.breach("L10", node, "too many lines")
        if node.name.startswith("__") and node.name not in DUNDERS:
            self.breach("L5", node, node.name)
        parent = self.parents[node]
        for one in node.decorator_list:
            if not isinstance(parent, ast.ClassDef) or not isinstance(one, ast.Name) or one.id not in ("property", "classmethod", "staticmethod"):
                self.breach("L4", node, "a decorator")
        given = node.args
        if given.vararg or given.kwarg or given.kwonlyargs or given.posonlyargs:
            self.breach("L4", node, "parameters")
        if not all(isinstance(one, (ast.Constant, ast.Tuple, ast.Load)) for default in given.defaults for one in ast.walk(default)):
            self.breach("L4", node, "a default value")
        if node.name in ("__eq__", "__str__", "__len__"):
            if not isinstance(node.body[-1], ast.Return):
                self.breach("L28", node, "no return at the end")
            if any(isinstance(one, (ast.Assign, ast.AugAssign, ast.For, ast.While)) for one in ast.walk(node)):
                self.breach("L28", node, "an assignment")
        if node.name == "__init__" and any(isinstance(one, ast.Return) for one in ast.walk(node)):
            self.breach("L28", node, "a return")
        for one in ast.walk(node):
            if isinstance(one, ast.Return) and node.name in ("__str__", "__len__") and not self.is_plain_return(one.value, node.name):
                self.breach("L28", one, "what is returned")

    def is_plain_return(self, value, name):
        """Whether what a method returns is of a form that L28 allows for it."""
        if not isinstance(value, ast.Call):
            return name == "__str__" and isinstance(value, (ast.Constant, ast.JoinedStr))
        if isinstance(value.func, ast.Name):
            return value.func.id == {"__str__": "str", "__len__": "len"}[name]
        return name == "__str__" and value.func.attr == "join" and isinstance(value.func.value, ast.Constant)

    def check_class(self, node):
        if node.decorator_list or node.keywords or len(node.bases) > 1 or self.parents[node] is not self.tree:
            self.breach("L5", node, "a class")
        if not node.name[0].isalpha():
            self.breach("L12", node, node.name)
        for one in node.body:
            if not isinstance(one, ast.FunctionDef) and not (isinstance(one, ast.Expr) and isinstance(one.value, ast.Constant)):
                self.breach("L5", one, "in a class")

    def check_call(self, node):
        called = node.func
        if isinstance(called, ast.Name) and called.id in BUILTINS:
            allowed = {"sorted": {"key", "reverse"}, "min": {"key", "default"}, "max": {"key", "default"}, "sum": {"start"}, "enumerate": {"start"}}
            if not {one.arg for one in node.keywords} <= allowed.get(called.id, set()):
                self.breach("L22", node, "a keyword")
            if called.id in LAZY and not self.is_iterated(node):
                self.breach("L23", node, called.id)
            if called.id == "set" and not self.is_set_used(node):
                self.breach("L24", node, "a set")
        if isinstance(called, ast.Attribute):
            if called.attr in VIEWS and not self.is_iterated(node):
                self.breach("L23", node, called.attr)
            if called.attr not in METHODS | self.all_methods:
                self.breach("L25", node, called.attr)
            if called.attr in METHODS and node.keywords:
                self.breach("L25", node, "a keyword")
        if any(isinstance(one, ast.Starred) for one in node.args) or any(one.arg is None for one in node.keywords):
            self.breach("L7", node, "a star")

    def is_iterated(self, node):
        parent = self.parents[node]
        if isinstance(parent, (ast.For, ast.comprehension)):
            return parent.iter is node
        if not isinstance(parent, ast.Call) or not isinstance(parent.func, ast.Name):
            return False
        is_range = isinstance(node.func, ast.Name) and node.func.id == "range"
        return parent.func.id in AT_ONCE or (is_range and parent.func.id in ("reversed", "len"))

    def is_set_used(self, node):
        parent = self.parents[node]
        return isinstance(parent, ast.Call) and isinstance(parent.func, ast.Name) and parent.func.id in ("len", "sorted") and not parent.keywords

    def check_constant(self, node):
        if isinstance(node.value, (float, complex, bytes)) or node.value is Ellipsis:
            self.breach("L7", node, "a value")
        if isinstance(node.value, str) and ("%" in node.value or (node.value.startswith("__") and node.value.endswith("__"))):
            self.breach("L27", node, "a string")

    def check_compare(self, node):
        for sign, right in zip(node.ops, node.comparators):
            if isinstance(sign, (ast.Is, ast.IsNot)) and not (isinstance(right, ast.Constant) and right.value in (None, True, False)):
                self.breach("L20", node, "is")

    def check_try(self, node):
        for one in node.handlers:
            if not isinstance(one.type, ast.Name) or one.type.id not in self.bound or one.name:
                self.breach("L19", node, "a handler")
        # in a finally names are kept in attributes, and nothing else is done
        for one in node.finalbody:
            if not (isinstance(one, ast.Assign) and len(one.targets) == 1 and isinstance(one.targets[0], ast.Attribute)
                    and isinstance(one.value, ast.Name)):
                self.breach("L6", node, "finally")

    def check_raise(self, node):
        made = node.exc
        if made is None or not isinstance(made, ast.Call) or made.keywords or not isinstance(made.func, ast.Name) or not made.func.id[0].isupper():
            self.breach("L19", node, "raise")

    def check_attribute(self, node):
        if isinstance(node.ctx, ast.Store) and not (isinstance(node.value, ast.Name) and node.value.id == "self"):
            self.breach("L18", node, "an attribute is assigned")
        if isinstance(node.ctx, ast.Store) and (node.attr in NOT_ATTRIBUTES or node.attr in self.all_methods):
            self.breach("L26", node, node.attr)
        if node.attr.startswith("__"):
            self.breach("L8", node, node.attr)
        parent = self.parents[node]
        is_called = isinstance(parent, ast.Call) and parent.func is node
        if isinstance(node.ctx, ast.Load) and node.attr in self.passed_on and not is_called:
            self.breach("L25", node, f"the method {node.attr} is passed on")
        if isinstance(node.ctx, ast.Load) and not is_called and node.attr not in self.told_attributes:
            self.breach("L18", node, f"nothing assigns {node.attr}")

    def check_comprehension(self, node):
        """In a nested function or another comprehension its variables are not names that are assigned further out."""
        own = {one.id for part in node.generators for one in ast.walk(part.target) if isinstance(one, ast.Name)}
        further, around = [], self.parents[node]
        while around is not self.tree:
            if isinstance(around, (ast.FunctionDef, *COMPREHENSIONS)):
                further.append(around)
            around = self.parents[around]
        if len(further) < 2:
            return
        for one in further:
            assigned = {name.id for name in ast.walk(one) if isinstance(name, ast.Name) and isinstance(name.ctx, ast.Store)
                        and not any(name in ast.walk(part.target) for part in node.generators)}
            if own & assigned:
                self.breach("L7", node, f"{own & assigned} are assigned further out")

    def check_names(self):
        classes_and_imports = [one.name for one in self.tree.body if isinstance(one, ast.ClassDef)]
        classes_and_imports += [one.name for node in self.tree.body if isinstance(node, ast.ImportFrom) for one in node.names]
        stored = {node.id: node for node in ast.walk(self.tree) if isinstance(node, ast.Name) and isinstance(node.ctx, ast.Store)}
        stored.update({node.arg: node for node in ast.walk(self.tree) if isinstance(node, ast.arg)})
        functions = {node.name: node for node in ast.walk(self.tree) if isinstance(node, ast.FunctionDef)}
        for name, node in list(stored.items()) + list(functions.items()):
            if name in DUNDERS or name == "_":
                continue
            if name in classes_and_imports or hasattr(builtins, name) or name in BARRED_NAMES:
                self.breach("L15 or L17", node, name)
            if name.startswith(BARRED_STARTS):
                self.breach("L12", node, name)
        module_functions = [one.name for one in self.tree.body if isinstance(one, ast.FunctionDef)]
        for name in set(stored) & set(module_functions):
            self.breach("a local name is that of a function", stored[name], name)
        for node in ast.walk(self.tree):
            if isinstance(node, ast.Name) and isinstance(node.ctx, ast.Load):
                if node.id not in stored and node.id not in functions and node.id not in self.bound and node.id not in BUILTINS:
                    self.breach("L8", node, node.id)
                if node.id == "_":
                    self.breach("L12", node, "_ is read")


def breaches(texts):
    """All breaches in a dict from names of files to their texts."""
    trees = {name: ast.parse(text) for name, text in texts.items()}
    methods = {one.name for tree in trees.values() for one in ast.walk(tree) if isinstance(one, ast.FunctionDef)}
    in_classes = [one for tree in trees.values() for cls in ast.walk(tree) if isinstance(cls, ast.ClassDef)
                  for one in cls.body if isinstance(one, ast.FunctionDef)]
    properties = {one.name for one in in_classes if any(isinstance(told, ast.Name) and told.id == "property" for told in one.decorator_list)}
    attributes = {one.attr for tree in trees.values() for one in ast.walk(tree) if isinstance(one, ast.Attribute) and isinstance(one.ctx, ast.Store)}
    found = []
    for name, text in texts.items():
        found += Checker(name, text, methods, {one.name for one in in_classes} - properties, properties | attributes).check()
        found += wrong_calls(name, trees)
    return found + imports_that_come_round(trees)


def wrong_calls(name, trees):
    """L22: calls of the package's functions, by their bare names, that pass too few arguments or too many."""
    functions = {one.name: one for one in trees[name].body if isinstance(one, ast.FunctionDef)}
    for node in trees[name].body:
        if isinstance(node, ast.ImportFrom) and node.module.startswith("allrows.") and node.module.split(".")[1] + ".py" in trees:
            told = {one.name: one for one in trees[node.module.split(".")[1] + ".py"].body if isinstance(one, ast.FunctionDef)}
            functions.update({one.name: told[one.name] for one in node.names if one.name in told})
    found = []
    for node in ast.walk(trees[name]):
        if isinstance(node, ast.Call) and isinstance(node.func, ast.Name) and node.func.id in functions:
            given = functions[node.func.id].args
            if not len(given.args) - len(given.defaults) <= len(node.args) + len(node.keywords) <= len(given.args):
                found.append(f"{name}:{node.lineno}: L22: {node.func.id}")
    return found


def imports_that_come_round(trees):
    needs = {name[:-3]: {one.module.split(".")[1] for one in tree.body if isinstance(one, ast.ImportFrom) and one.module.startswith("allrows.")}
             for name, tree in trees.items()}
    while True:
        free = [name for name, needed in needs.items() if not needed & set(needs)]
        if not free:
            return [f"L16: {name} comes round" for name in needs]
        needs = {name: needed for name, needed in needs.items() if name not in free}
