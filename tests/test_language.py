import ast
import pathlib
import unittest

FOLDER = pathlib.Path(__file__).resolve().parent.parent / 'firstletter'


def sources():
    """The name, the text and the syntax tree of each file of the package."""
    for path in sorted(FOLDER.glob('*.py')):
        text = path.read_text(encoding='utf-8')
        yield path.name, text, ast.parse(text)


def properties():
    """The names of all properties of the package."""
    return {node.name for _, _, tree in sources() for node in ast.walk(tree) if isinstance(node, ast.FunctionDef)
            for sign in node.decorator_list if isinstance(sign, ast.Name) and sign.id == 'property'}


def is_plain(node, barred):
    """Whether L7 lets this stand behind a star in a call, and beside **."""
    if isinstance(node, ast.Attribute):
        return isinstance(node.value, ast.Name) and node.attr not in barred
    if isinstance(node, (ast.List, ast.Tuple)):
        return all(is_plain(part, barred) for part in node.elts)
    if isinstance(node, ast.Dict):
        return all(is_plain(part, barred) for part in (*node.keys, *node.values))
    return isinstance(node, (ast.Name, ast.Constant))


def starred_calls(tree):
    """Each call with a star or with **, and what stands behind the star or beside **."""
    for node in ast.walk(tree):
        if isinstance(node, ast.Call):
            stars = [k for k, part in enumerate(node.args) if isinstance(part, ast.Starred)]
            is_double = any(word.arg is None for word in node.keywords)
            if stars or is_double:
                behind = node.args if is_double else node.args[stars[0]:]
                parts = [part.value if isinstance(part, ast.Starred) else part for part in behind]
                yield node, parts + [word.value for word in node.keywords]


class LanguageTest(unittest.TestCase):

    def test_calls_with_stars(self):
        barred = properties()
        for name, _, tree in sources():
            for node, parts in starred_calls(tree):
                wrong = [ast.unparse(part) for part in parts if not is_plain(part, barred)]
                self.assertEqual(wrong, [], f'{name}, row {node.lineno}: {ast.unparse(node)}')

    def test_sizes(self):
        for name, text, tree in sources():
            rows = text.splitlines()
            self.assertLessEqual(len(rows), 399, name)
            self.assertLessEqual(max([len(row) for row in rows], default=0), 120, name)
            for node in ast.walk(tree):
                if isinstance(node, ast.FunctionDef):
                    self.assertLessEqual(node.end_lineno - node.lineno + 1, 40, f'{name}, {node.name}')

    def test_characters(self):
        for name, text, _ in sources():
            self.assertEqual([sign for sign in text if sign != '\n' and not ' ' <= sign <= '~'], [], name)


if __name__ == '__main__':
    unittest.main()
