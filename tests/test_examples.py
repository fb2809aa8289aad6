"""The examples of DOC.md, as they are written there, and those of README.md."""

import ast
import doctest
import pathlib
import unittest

from squeezedkeyer import errors

README = pathlib.Path(__file__).resolve().parent.parent / "README.md"

EXAMPLES = {
    10: ['''
>>> from squeezedkeyer.rules import are_alike, exchanged, multiplied, period, plain
>>> rules = (2, 6, 2, 9, "held", True, "l")
>>> [period(rules, "s"), exchanged(rules), multiplied(rules, 10), plain(rules)]
[4, (6, 2, 2, 9, 'held', True, 's'), (20, 60, 20, 90, 'held', True, 'l'), (2, 6, 2, 0, 'none', False, 'l')]
''', '''
>>> from squeezedkeyer.rules import are_alike, plain
>>> one, other = (2, 6, 2, 3, "held", False, "s"), (2, 6, 2, 3, "held", False, "stay")
>>> [plain(one), plain((2, 6, 2, 5, "held", False, "l")), are_alike(one, other), are_alike(one, (2, 6, 2, 2, "held", False, "s"))]
[(2, 6, 2, 3, 'held', False, 'turn'), (2, 6, 2, 5, 'held', False, 'turn'), True, False]
'''],
    12: ['''
>>> from squeezedkeyer.records import down_stretches, exchanged, is_down, is_record, joined, moved, multiplied, shifted
>>> record = [(0, "s", True), (4, "l", True), (9, "s", False), (9, "l", False)]
>>> [is_down(record, "s", 0), is_down(record, "s", 9), is_down(record, "s", -5), down_stretches(record, "l")]
[True, False, False, [(4, 9)]]
>>> [exchanged(record)[0], shifted(record, -3)[0], multiplied(record, 10)[1], joined(record, shifted(record, 9))[4]]
[(0, 'l', True), (-3, 's', True), (40, 'l', True), (9, 's', True)]
>>> moved(record, 1, 9)
[(0, 's', True), (9, 'l', True), (9, 's', False), (9, 'l', False)]
>>> [is_record([]), is_record(record[:3]), is_record([(0, "s", True), (0, "s", False)]), is_record(record[::-1])]
[True, False, True, False]
''', '''
>>> from squeezedkeyer.records import joined
>>> joined([(0, "s", True), (4, "s", False)], [(3, "l", True), (9, "l", False)])
raises InvalidTick
'''],
}


def pairs(example):
    """The calls of an example, each with the line that it shows, or None."""
    lines = example.strip().split("\n")
    shown = lines[1:] + [">>> "]
    return [(line[4:], None if below.startswith(">>> ") else below)
            for line, below in zip(lines, shown) if line.startswith(">>> ")]


def answer(line, names):
    """What a line of an example shows."""
    try:
        compiled = compile(line, "example", "eval")
    except SyntaxError:
        exec(line, names)
        return None
    try:
        value = eval(compiled, names)
    except errors.KeyerError as error:
        told = ", ".join(f"{field}={value!r}" for field, value in vars(error).items())
        return f"raises {type(error).__name__}" + (f"({told})" if told else "")
    return None if value is None else repr(value)


class ExamplesTest(unittest.TestCase):
    def test_each_example_shows_what_is_written_below_it(self):
        for point, examples in EXAMPLES.items():
            for example in examples:
                names = {}
                for line, shown in pairs(example):
                    with self.subTest(point=point, line=line):
                        self.assertEqual(answer(line, names), shown)

    def test_lines_that_show_something_are_found(self):
        found = [shown for examples in EXAMPLES.values() for example in examples for _, shown in pairs(example)]
        self.assertEqual(len([shown for shown in found if shown is not None]), 7)
        for shown in found:
            if shown is not None and not shown.startswith("raises "):
                ast.literal_eval(shown)

    def test_examples_of_the_readme(self):
        text = README.read_text().replace("```", "")
        examples = doctest.DocTestParser().get_doctest(text, {}, "README.md", str(README), 0)
        told = []
        found = doctest.DocTestRunner(verbose=False).run(examples, out=told.append)
        self.assertEqual((found.failed, told), (0, []))
        self.assertGreater(found.attempted, 0)


if __name__ == "__main__":
    unittest.main()
