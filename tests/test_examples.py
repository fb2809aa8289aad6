"""The examples of DOC.md, as they are written there, and those of README.md."""

import ast
import doctest
import pathlib
import unittest

from squeezedkeyer import errors

README = pathlib.Path(__file__).resolve().parent.parent / "README.md"

EXAMPLES = {
    6: ['''
>>> from squeezedkeyer.marks import idle_from, runs_of
>>> rules = (2, 6, 2, 0, "none", False, "turn")
>>> held = [(0, "s", True), (9, "s", False)]
>>> squeezed = [(0, "s", True), (1, "l", True), (20, "s", False), (20, "l", False)]
>>> [runs_of(rules, held), idle_from(rules, held), runs_of(rules, squeezed), idle_from(rules, squeezed)]
[[(0, 's', 3)], 12, [(0, 'sl', 2)], 24]
''', '''
>>> from squeezedkeyer.marks import runs_of
>>> squeezed = [(0, "s", True), (1, "l", True), (20, "s", False), (20, "l", False)]
>>> runs_of((2, 6, 2, 0, "held", False, "turn"), squeezed)
[(0, 'sl', 2), (24, 's', 1)]
>>> touched = [(0, "s", True), (1, "s", False), (2, "l", True), (3, "l", False)]
>>> ways = [(0, "none"), (0, "press"), (3, "press"), (3, "held")]
>>> [runs_of((2, 6, 2, deaf, remember, False, "turn"), touched) for deaf, remember in ways]
[[(0, 's', 1)], [(0, 's', 1), (4, 'l', 1)], [(0, 's', 1)], [(0, 's', 1), (4, 'l', 1)]]
'''],
    10: ['''
>>> from squeezedkeyer.rules import are_alike, exchanged, multiplied, period, plain
>>> rules = (2, 6, 2, 9, "held", True, "l")
>>> [period(rules, "s"), exchanged(rules), multiplied(rules, 10), plain(rules)]
[4, (6, 2, 2, 9, 'held', True, 's'), (20, 60, 20, 90, 'held', True, 'l'), (2, 6, 2, 0, 'none', False, 'l')]
''', '''
>>> from squeezedkeyer.rules import are_alike, plain
>>> one, other = (2, 6, 2, 3, "held", False, "s"), (2, 6, 2, 3, "held", False, "stay")
>>> [plain(one), plain((2, 6, 2, 5, "held", False, "l")), are_alike(one, other), are_alike(one, (2, 6, 2, 2, "held", False, "s"))]
[(2, 6, 2, 3, 'held', False, 'turn'), (2, 6, 2, 5, 'held', False, 'turn'), True, False]
'''],
    12: ['''
>>> from squeezedkeyer.records import down_stretches, exchanged, is_down, is_record, joined, moved, multiplied, shifted
>>> record = [(0, "s", True), (4, "l", True), (9, "s", False), (9, "l", False)]
>>> [is_down(record, "s", 0), is_down(record, "s", 9), is_down(record, "s", -5), down_stretches(record, "l")]
[True, False, False, [(4, 9)]]
>>> [exchanged(record)[0], shifted(record, -3)[0], multiplied(record, 10)[1], joined(record, shifted(record, 9))[4]]
[(0, 'l', True), (-3, 's', True), (40, 'l', True), (9, 's', True)]
>>> moved(record, 1, 9)
[(0, 's', True), (9, 'l', True), (9, 's', False), (9, 'l', False)]
>>> [is_record([]), is_record(record[:3]), is_record([(0, "s", True), (0, "s", False)]), is_record(record[::-1])]
[True, False, True, False]
''', '''
>>> from squeezedkeyer.records import joined
>>> joined([(0, "s", True), (4, "s", False)], [(3, "l", True), (9, "l", False)])
raises InvalidTick
'''],
    14: ['''
>>> from squeezedkeyer.marks import count_begun, count_marks, kinds_of, mark_at, nth_mark
>>> rules, held = (2, 6, 2, 0, "none", False, "turn"), [(0, "s", True), (9, "s", False)]
>>> [kinds_of(rules, held), count_marks(rules, held), nth_mark(rules, held, 2), mark_at(rules, held, 5)]
[[('s', 3)], 3, (8, 10, 's'), (4, 6, 's')]
>>> [mark_at(rules, held, 6), count_begun(rules, held, 7), count_begun(rules, held, 8)]
[None, 2, 3]
>>> count_marks(rules, [(0, "s", True), (10 ** 29, "s", False)])
25000000000000000000000000001
'''],
    15: ['''
>>> from squeezedkeyer.steps import count_steps, count_word, steps
>>> rules = (2, 6, 2, 0, "none", False, "turn")
>>> steps(rules, [(0, "s", True), (5, "s", False)])
[(0, 'press s'), (0, 'begin s'), (4, 'begin s'), (5, 'release s'), (8, 'idle')]
>>> steps((2, 6, 2, 3, "held", False, "turn"), [(0, "s", True), (1, "s", False), (2, "l", True), (3, "l", False)])
[(0, 'press s'), (0, 'begin s'), (1, 'release s'), (2, 'press l'), (3, 'hear'), (3, 'remember l'), (3, 'release l'), (4, 'begin l'), (7, 'hear'), (12, 'idle')]
>>> long = [(0, "s", True), (10 ** 29, "s", False)]
>>> [count_steps(rules, long), count_word(rules, long, "begin s"), count_word(rules, long, "hear")]
[25000000000000000000000000004, 25000000000000000000000000001, 0]
'''],
    18: ['''
>>> from squeezedkeyer.live import Keyer
>>> keyer = Keyer((2, 6, 2, 0, "press", False, "turn"))
>>> [keyer.press("s", 0), keyer.release("s", 1), keyer.press("l", 2)]
[None, None, None]
>>> [keyer.runs, keyer.down, keyer.remembered, keyer.next_decision, keyer.would_be()]
[[(0, 's', 1)], ['l'], ['l'], 4, [(0, 's', 1), (4, 'l', 1)]]
>>> [keyer.wait(12), keyer.runs, keyer.remembered, keyer.is_idle]
[None, [(0, 's', 1), (4, 'l', 2)], [], False]
>>> [keyer.release("l", 13), keyer.wait(20), keyer.is_idle, keyer.undo(), keyer.tick, keyer.is_idle]
[None, None, True, None, 13, False]
>>> keyer.log
[('press', 's', 0), ('release', 's', 1), ('press', 'l', 2), ('wait', 12), ('release', 'l', 13)]
>>> other = keyer.fork()
>>> [other == keyer, other.press("s", 13), other == keyer, other.down, keyer.down]
[True, None, False, ['s'], []]
''', '''
>>> from squeezedkeyer.live import Keyer
>>> Keyer((2, 6, 2, 0, "none", False, "turn")).release("s", 5)
raises Impossible
'''],
    19: ['''
>>> from squeezedkeyer.letters import is_code, read, read_runs
>>> rules, code = (2, 6, 2, 0, "none", False, "turn"), {"e": "s", "t": "l", "a": "sl", "n": "ls"}
>>> [read(rules, code, (6, 14), [(0, "s", True), (1, "s", False), (tick, "l", True), (tick + 2, "l", False)]) for tick in (3, 7, 8, 15, 16)]
['a', 'a', 'et', 'et', 'e t']
>>> [read_runs(rules, code, (6, 14), [(0, "sl", 1), (18, "s", 1)]), read_runs(rules, code, (6, 14), [(0, "s", 10 ** 20)])]
['ae', '?']
>>> [is_code(code), is_code({}), is_code({"e": "s", "i": "s"}), read(rules, code, (6, 14), [])]
[True, False, False, '']
'''],
    20: ['''
>>> from squeezedkeyer.letters import broken, joined_letter, next_letters
>>> code = {"e": "s", "t": "l", "a": "sl", "n": "ls", "i": "ss"}
>>> [broken(code, "a"), broken(code, "i"), broken(code, "e"), joined_letter(code, "te"), joined_letter(code, "tt")]
[['et'], ['ee'], [], 'n', None]
>>> [next_letters(code, "s"), next_letters(code, "ll"), next_letters(code, "")]
[['a', 'e', 'i'], [], ['a', 'e', 'i', 'n', 't']]
'''],
    21: ['''
>>> from squeezedkeyer.sending import fewest_events, greatest_slack, trade
>>> rules = (20, 60, 20, 0, "none", False, "turn")
>>> [fewest_events(rules, [("sl", 2)], 9), fewest_events(rules, [("sl", 2)], 10), greatest_slack(rules, [("sl", 2)], 4)]
[4, None, 9]
>>> [trade(rules, [("sl", 2)]), greatest_slack(rules, [("sl", 2)], 3), fewest_events(rules, [("s", 10 ** 29)], 9)]
[[(4, 9)], None, 2]
'''],
    22: ['''
>>> from squeezedkeyer.sending import fewest_for_text
>>> rules, code = (20, 60, 20, 0, "none", False, "turn"), {"e": "s", "t": "l", "a": "sl"}
>>> [fewest_for_text(rules, code, (60, 140), "at", slack) for slack in (0, 9, 10)]
[6, 6, None]
'''],
    24: ['''
>>> from squeezedkeyer.steady import shows_upset, slack, steadier
>>> rules, record = (8, 24, 8, 0, "none", False, "turn"), [(0, "s", True), (12, "s", False)]
>>> [slack(rules, record), slack(rules, [(0, "s", True), (6, "s", False)]), slack(rules, steadier(rules, record)), slack(rules, [])]
[1, 3, 3, None]
>>> values = [[(-2, "s", True), (14, "s", False)], [(-1, "s", True), (13, "s", False)], [(-3, "s", True), (14, "s", False)]]
>>> [shows_upset(rules, record, value) for value in values]
[True, False, False]
>>> [slack(rules, [(0, "s", True), (1, "l", True), (20, "s", False), (20, "l", False)]), shows_upset(rules, [], [])]
[0, False]
'''],
    25: ['''
>>> from squeezedkeyer.parting import fewest_parting, parting_record, shows_parting
>>> one, other = (2, 6, 2, 0, "none", False, "turn"), (2, 6, 2, 0, "press", False, "turn")
>>> touch = [(0, "s", True), (1, "s", False), (2, "l", True), (3, "l", False)]
>>> [fewest_parting(one, other), shows_parting(one, other, touch), shows_parting(one, other, touch[:2]), parting_record(one, one)]
[4, True, False, None]
>>> [fewest_parting(one, (2, 6, 3, 0, "none", False, "turn")), fewest_parting(one, (3, 6, 2, 0, "none", False, "turn"))]
[2, 2]
'''],
    26: ['''
>>> from squeezedkeyer.heard import fewest_for_runs, is_possible, record_for
>>> rules = (8, 24, 8, 0, "none", False, "turn")
>>> [fewest_for_runs(rules, [(0, "s", 10 ** 29)], slack) for slack in (0, 3, 4)]
[2, 2, None]
>>> [is_possible(rules, [(0, "s", 1), (18, "s", 1)], slack) for slack in (0, 1, 2)]
[True, True, False]
>>> [len(record_for(rules, [(0, "sl", 3)], 1))] + [fewest_for_runs(rules, [(0, "sl", 3)], slack) for slack in (3, 4)]
[4, 4, None]
'''],
    27: ['''
>>> from squeezedkeyer.heard import fewest_down_at
>>> rules = (2, 6, 2, 0, "none", False, "turn")
>>> [fewest_down_at(rules, [(0, "s", 2)], 0, "s", tick) for tick in (-1, 0, 3, 5, 6, 7, 8)]
[False, True, True, None, None, False, False]
'''],
    28: ['''
>>> from squeezedkeyer.heard import rules_for
>>> found = rules_for(2, 6, 2, [(0, "s", 1), (4, "l", 1)], 0, 2)
>>> [found, ("none", False, "turn", 0, 0) in rules_for(2, 6, 2, [(0, "s", 1), (4, "l", 1)], 0, 4)]
[[], True]
'''],
    29: ['''
>>> from squeezedkeyer.windows import windows, windows_for
>>> rules, record = (5, 20, 1, 0, "none", False, "turn"), [(0, "s", True), (3, "s", False), (14, "s", True), (15, "s", False)]
>>> record = record + [(18, "l", True), (19, "l", False), (20, "s", True), (21, "s", False), (26, "l", True), (27, "l", False)]
>>> [windows(rules, record, 1), windows_for(rules, record, 1, [("s", 4), ("l", 1)])]
[[(0, 5), (12, 14)], [(6, 11)]]
'''],
    30: ['''
>>> from squeezedkeyer.fits import fitting, greatest_fit, least_fit
>>> rules, held = (2, 6, 2, 0, "press", False, "turn"), [(0, "s", True), (9, "s", False)]
>>> [fitting(rules, "s", [(held, [("s", 3)])]), fitting(rules, "s", [(held, [("s", 1)])])]
[[(2, 2)], [(8, None)]]
>>> touched = [(0, "s", True), (1, "s", False), (2, "l", True), (3, "l", False)]
>>> some = [(touched, [("s", 1), ("l", 1)])]
>>> [fitting(rules, "deaf", some), least_fit(rules, "deaf", some), greatest_fit(rules, "deaf", some)]
[[(0, 2)], 0, 2]
'''],
    32: ['''
>>> from squeezedkeyer.texts import format_record, format_rules, format_runs, parse_record, parse_rules
>>> [format_rules((2, 6, 2, 0, "none", False, "turn")), parse_rules("2 6 2 3 held yes l"), format_runs([(0, "sl", 2), (24, "s", 1)])]
['2 6 2 0 none no turn', (2, 6, 2, 3, 'held', True, 'l'), '0:sl*2 24:s*1']
>>> [format_record([(-4, "s", True), (9, "s", False)]), parse_record("0s+ 0s-"), parse_record("")]
['-4s+ 9s-', [(0, 's', True), (0, 's', False)], []]
''', '''
>>> from squeezedkeyer.texts import parse_record, parse_rules
>>> parse_record("0s+ 4l+ 3s- 9l-")
raises InvalidSyntax(line=0, word=2)
>>> parse_record("0s+ 4l+ 9l-")
raises InvalidSyntax(line=0, word=3)
>>> parse_rules("2 6 0 0 none no turn")
raises InvalidSyntax(line=0, word=2)
'''],
    33: ['''
>>> from squeezedkeyer.console import Console
>>> console = Console()
>>> rows = ["rules 2 6 2 0 none no turn", "press s 0", "wait 5", "runs", "next", "release s 9", "down", "would", "wait 12", "idle", "log"]
>>> [console.execute(row) for row in rows]
['ok', 'ok', 'ok', '0:s*2', '8', 'ok', 'none', '0:s*3', 'ok', 'yes', 'press s 0; wait 5; release s 9; wait 12']
>>> [console.execute(row) for row in ["record 0s+ 1l+ 20s- 20l-", "kinds", "count", "undo", "idle", "next"]]
['ok', 'sl*2', '4', 'ok', 'no', '12']
'''],
}


def pairs(example):
    """The calls of an example, each with the line that it shows, or None."""
    lines = example.strip().split("\n")
    shown = lines[1:] + [">>> "]
    return [(line[4:], None if below.startswith(">>> ") else below)
            for line, below in zip(lines, shown) if line.startswith(">>> ")]


def answer(line, names):
    """What a line of an example shows."""
    try:
        compiled = compile(line, "example", "eval")
    except SyntaxError:
        exec(line, names)
        return None
    try:
        value = eval(compiled, names)
    except errors.KeyerError as error:
        told = ", ".join(f"{field}={value!r}" for field, value in vars(error).items())
        return f"raises {type(error).__name__}" + (f"({told})" if told else "")
    return None if value is None else repr(value)


class ExamplesTest(unittest.TestCase):
    def test_each_example_shows_what_is_written_below_it(self):
        for point, examples in EXAMPLES.items():
            for example in examples:
                names = {}
                for line, shown in pairs(example):
                    with self.subTest(point=point, line=line):
                        self.assertEqual(answer(line, names), shown)

    def test_lines_that_show_something_are_found(self):
        found = [shown for examples in EXAMPLES.values() for example in examples for _, shown in pairs(example)]
        self.assertEqual(len([shown for shown in found if shown is not None]), 51)
        for shown in found:
            if shown is not None and not shown.startswith("raises "):
                ast.literal_eval(shown)

    def test_examples_of_the_readme(self):
        text = README.read_text().replace("```", "")
        examples = doctest.DocTestParser().get_doctest(text, {}, "README.md", str(README), 0)
        told = []
        found = doctest.DocTestRunner(verbose=False).run(examples, out=told.append)
        self.assertEqual((found.failed, told), (0, []))
        self.assertGreater(found.attempted, 0)


if __name__ == "__main__":
    unittest.main()
