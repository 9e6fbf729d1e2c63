"""Some rules of the small language that the package is written in, as far as they can be seen here."""

import ast
import builtins
import io
import pathlib
import re
import tokenize
import unittest

PACKAGE = pathlib.Path(__file__).resolve().parent.parent / "halftruths"
FILES = sorted(PACKAGE.rglob("*.py"))
FROM_LIBRARY = {
    "heapq": {"heappush", "heappop", "heapify", "heapreplace", "heappushpop"},
    "math": {"gcd", "lcm", "isqrt", "comb", "perm", "factorial"},
    "itertools": {"product", "combinations", "permutations", "chain", "accumulate", "pairwise", "islice",
                  "zip_longest"},
    "collections": {"defaultdict", "deque"},
}
BUILTINS_ALLOWED = set(
    "len range enumerate zip min max sum abs sorted reversed int str bool bytes list tuple dict set frozenset "
    "isinstance ord repr any all divmod pow getattr hasattr setattr iter next map type super property "
    "staticmethod classmethod Exception ValueError TypeError KeyError IndexError LookupError ZeroDivisionError "
    "ArithmeticError OverflowError RuntimeError NotImplementedError AttributeError StopIteration "
    "NotImplemented".split())
METHODS_OF_VALUES = set(
    "append clear copy count endswith extend find get index insert isalnum isalpha isdigit islower isspace isupper "
    "items join keys ljust lower lstrip partition pop remove replace reverse rfind rjust rpartition rsplit rstrip "
    "setdefault split splitlines startswith strip update upper values zfill bit_length title capitalize swapcase "
    "casefold center expandtabs removeprefix removesuffix rindex isascii isdecimal isnumeric istitle isidentifier "
    "isprintable translate add discard sort format __init__".split())
NEVER = set("register mro elements open input law version_info with_traceback add_note".split())
NO_WORDS = set(
    "type typing typing_extensions enum Enum IntEnum StrEnum Flag IntFlag Generic Protocol ABC ABCMeta namedtuple "
    "NamedTuple TypedDict TYPE_CHECKING abstractmethod dataclass overload contextmanager _wall _WallAttr".split())
NO_ATTRIBUTES = set("items keys values pop update append clear extend insert remove reverse setdefault sort args "
                    "encode decode hex fromhex format format_map mro is_integer conjugate".split())


def scopes(tree):
    return [node for node in ast.walk(tree) if isinstance(node, (ast.FunctionDef, ast.Lambda))]


def names_bound_in(function):
    found = [arg.arg for arg in ast.walk(function.args) if isinstance(arg, ast.arg)]
    for node in ast.walk(function):
        if isinstance(node, ast.Name) and isinstance(node.ctx, ast.Store):
            found.append(node.id)
        elif isinstance(node, ast.FunctionDef) and node is not function:
            found.append(node.name)
    return found


class Files(unittest.TestCase):
    def check(self, fits, what):
        for path in FILES:
            for place in fits(path, path.read_text("utf-8")):
                self.fail("{}: {}: {}".format(what, path.name, place))

    def check_trees(self, wrong, what):
        self.check(lambda path, text: wrong(ast.parse(text)), what)

    def test_only_plain_files(self):
        for path in PACKAGE.rglob("*"):
            if "__pycache__" not in path.parts:
                self.assertTrue(path.is_file() and re.fullmatch(r"[a-z0-9_]+\.py", path.name), path)
        self.assertLessEqual(len(FILES), 100)

    def test_sizes(self):
        def wrong(path, text):
            lines = text.split("\n")
            found = [k for k, line in enumerate(lines, 1) if len(line) > 120 or "\t" in line]
            found += [k for k, line in enumerate(lines, 1) if not all(" " <= sign <= "~" for sign in line)]
            return found + (["length"] if len(lines) > 400 else [])
        self.check(wrong, "L10, L14")

    def test_functions(self):
        self.check_trees(lambda tree: [node.name for node in ast.walk(tree) if isinstance(node, ast.FunctionDef)
                                       and node.end_lineno - node.lineno >= 40], "L10")

    def test_module_level(self):
        kinds = (ast.ImportFrom, ast.FunctionDef, ast.ClassDef, ast.Assign)

        def wrong(tree):
            body = tree.body[1:] if ast.get_docstring(tree) else tree.body
            return [node.lineno for node in body if not isinstance(node, kinds)]
        self.check_trees(wrong, "L3")

    def test_one_binding(self):
        def wrong(tree):
            bound = []
            for node in tree.body:
                if isinstance(node, ast.ImportFrom):
                    bound += [alias.asname or alias.name for alias in node.names]
                elif isinstance(node, (ast.FunctionDef, ast.ClassDef)):
                    bound.append(node.name)
                elif isinstance(node, ast.Assign):
                    bound += [target.id for target in node.targets]
            return [name for name in bound if bound.count(name) > 1 or hasattr(builtins, name)]
        self.check_trees(wrong, "L15")

    def test_imports(self):
        defined = {}
        for path in FILES:
            body = ast.parse(path.read_text("utf-8")).body
            defined["halftruths." + path.stem] = {
                name for node in body
                for name in ([node.name] if isinstance(node, (ast.FunctionDef, ast.ClassDef)) else
                             [target.id for target in node.targets] if isinstance(node, ast.Assign) else [])}

        def wrong(tree):
            found = [node.lineno for node in ast.walk(tree) if isinstance(node, ast.Import)]
            for node in ast.walk(tree):
                if isinstance(node, ast.ImportFrom):
                    known = {**FROM_LIBRARY, **defined}.get(node.module, set())
                    found += [alias.name for alias in node.names if alias.name not in known or node.level]
            return found
        self.check_trees(wrong, "L2, L16")

    def test_imports_are_used(self):
        def wrong(tree):
            used = {node.id for node in ast.walk(tree) if isinstance(node, ast.Name)}
            return [alias.name for node in tree.body if isinstance(node, ast.ImportFrom)
                    for alias in node.names if (alias.asname or alias.name) not in used]
        self.check_trees(wrong, "an import that is not used")

    def test_no_ring_of_imports(self):
        after = {}
        for path in FILES:
            nodes = [node for node in ast.walk(ast.parse(path.read_text("utf-8"))) if isinstance(node, ast.ImportFrom)]
            after[path.stem] = {node.module.split(".")[-1] for node in nodes if node.module.startswith("halftruths.")}
        while after:
            free = [name for name, others in after.items() if not others & set(after)]
            self.assertTrue(free, after)
            for name in free:
                del after[name]

    def test_local_names(self):
        def wrong(tree):
            taken = set(dir(builtins))
            for node in tree.body:
                if isinstance(node, ast.ImportFrom):
                    taken |= {alias.asname or alias.name for alias in node.names}
                elif isinstance(node, (ast.ClassDef, ast.FunctionDef)):
                    taken.add(node.name)
            return [name for function in scopes(tree) for name in names_bound_in(function) if name in taken]
        self.check_trees(wrong, "L15")

    def test_builtins(self):
        def wrong(tree):
            return [node.id for node in ast.walk(tree) if isinstance(node, ast.Name)
                    and hasattr(builtins, node.id) and node.id not in BUILTINS_ALLOWED]
        self.check_trees(wrong, "L8")

    def test_words(self):
        def wrong(path, text):
            found = []
            for token in tokenize.generate_tokens(io.StringIO(text).readline):
                if token.type == tokenize.NAME and (token.string in NEVER or token.string in NO_WORDS):
                    found.append(token.string)
                if token.type == tokenize.NAME and re.match("__(?!init__|eq__|iter__|enter__|exit__|contains__|"
                                                            "len__|str__|repr__|call__|class__|name__)", token.string):
                    found.append(token.string)
                if token.type == tokenize.STRING and not token.string.startswith('"""'):
                    found += [word for word in re.findall(r"\w+", token.string) if word in NO_WORDS]
                    found += [sign for sign in ("%",) if sign in token.string]
            return found
        self.check(wrong, "L17, L27")

    def test_attributes(self):
        def wrong(tree):
            stored = [node.attr for node in ast.walk(tree) if isinstance(node, ast.Attribute)
                      and isinstance(node.ctx, ast.Store)]
            return [name for name in stored if name in NO_ATTRIBUTES]
        self.check_trees(wrong, "L26")

    def test_methods(self):
        own = {node.name for path in FILES for node in ast.walk(ast.parse(path.read_text("utf-8")))
               if isinstance(node, ast.FunctionDef)}

        def wrong(tree):
            return [node.func.attr for node in ast.walk(tree) if isinstance(node, ast.Call)
                    and isinstance(node.func, ast.Attribute)
                    and node.func.attr not in own and node.func.attr not in METHODS_OF_VALUES]
        self.check_trees(wrong, "L25")

    def test_no_floats_and_no_exponents(self):
        def wrong(tree):
            found = [node.lineno for node in ast.walk(tree) if isinstance(node, ast.Constant)
                     and isinstance(node.value, (float, complex))]
            found += [node.lineno for node in ast.walk(tree) if isinstance(node, (ast.BinOp, ast.AugAssign))
                      and isinstance(node.op, ast.Div)]
            return found + [node.lineno for node in ast.walk(tree) if isinstance(node, ast.BinOp)
                            and isinstance(node.op, ast.Pow) and not isinstance(node.right, ast.Constant)]
        self.check_trees(wrong, "L7, L27")

    def test_statements(self):
        kinds = (ast.AsyncFunctionDef, ast.AsyncFor, ast.AsyncWith, ast.Await)
        self.check_trees(lambda tree: [node.lineno for node in ast.walk(tree) if isinstance(node, kinds)], "L6")

    def test_beside_operators(self):
        # A class is compared, asked by `in` and iterated over: so no generators, no `sort`, no length of an object.
        def wrong(tree):
            kinds = (ast.GeneratorExp, ast.Yield, ast.YieldFrom)
            found = [node.lineno for node in ast.walk(tree) if isinstance(node, kinds)]
            found += [node.lineno for node in ast.walk(tree) if isinstance(node, ast.Attribute) and node.attr == "sort"]
            return found + [node.name for node in ast.walk(tree) if isinstance(node, ast.FunctionDef)
                            and node.name in ("__len__", "__getitem__", "__lt__", "__bool__", "__hash__", "__add__")]
        self.check_trees(wrong, "L5, L7, L25")

    def test_rows_of_exit(self):
        def wrong(tree):
            found = []
            for node in ast.walk(tree):
                if isinstance(node, ast.FunctionDef) and node.name == "__exit__":
                    found += [row.lineno for row in node.body if not isinstance(row, ast.Assign)
                              or not isinstance(row.targets[0], ast.Attribute) or not isinstance(row.value, ast.Attribute)]
            return found
        self.check_trees(wrong, "L6")

    def test_calls_without_stars_at_builtins(self):
        def wrong(tree):
            return [node.lineno for node in ast.walk(tree) if isinstance(node, ast.Call)
                    and any(isinstance(arg, ast.Starred) for arg in node.args)
                    and isinstance(node.func, ast.Name) and node.func.id not in ("max", "min", "zip")
                    and (hasattr(builtins, node.func.id) or node.func.id in ("gcd", "lcm"))]
        self.check_trees(wrong, "L7")
