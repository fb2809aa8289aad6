"""What several tests need: wrong values, and checks of calls."""

import copy

from squeezedkeyer import errors


class Clumsy:
    """A value that is equal to everything."""

    __hash__ = None

    def __eq__(self, other):
        return True


RULES = (2, 6, 2, 3, "held", True, "l")
RECORD = [(0, "s", True), (4, "l", True), (9, "s", False), (9, "l", False)]
GREAT = 10 ** 30 - 1

STRANGE = [None, True, False, 1.0, 2.5, b"s", (), {}, {"s"}, [None], object(), len, Clumsy()]
NO_INTEGERS = STRANGE + ["", "1", [1], (1,)]
NO_LEVERS = STRANGE + [0, 1, -1, "", "S", "L", "ss", "sl", "turn", " s", "s ", ["s"], ("s",)]
NO_RULES = STRANGE + [0, 1, "", "seventy", [], list(RULES), RULES[:6], RULES + (0,)]
NO_LISTS = [value for value in STRANGE if not isinstance(value, list)]
NO_LISTS += [0, 1, "", "s", tuple(RECORD), tuple(RECORD[:1])]


def replaced(items, index, item):
    """A copy of a list or a tuple with another item at one place."""
    return items[:index] + type(items)([item]) + items[index + 1:]


def touches(many):
    """A record of short touches with so many events."""
    return [(index // 2 * 10, "s", index % 2 == 0) for index in range(many)]


WRONG_RULES = [(value, errors.InvalidRules, {"index": None}) for value in NO_RULES]
WRONG_RULES += [(replaced(RULES, index, None), errors.InvalidRules, {"index": index}) for index in range(7)]
WRONG_RULES += [(replaced(RULES, 0, 0), errors.InvalidRules, {"index": 0})]
WRONG_RECORDS = [(value, errors.InvalidRecord, {"index": None}) for value in NO_LISTS + [touches(201), touches(202)]]
WRONG_RECORDS += [
    ([None], errors.InvalidRecord, {"index": 0}),
    ([(0, "s", False)], errors.InvalidRecord, {"index": 0}),
    ([(0, "s", True), (True, "s", False)], errors.InvalidRecord, {"index": 1}),
    ([(0, "s", True), (-1, "s", False)], errors.InvalidRecord, {"index": 1}),
    (RECORD[:3], errors.InvalidRecord, {"index": 3}),
    (touches(199), errors.InvalidRecord, {"index": 199}),
]
NO_KINDS = [
    None, True, 0, "", "s", {}, (), (("s", 1),), [], [("s", 1)] * 101, Clumsy(),
]
NO_PAIRS = [
    None, "s1", ["s", 1], ("s",), ("s", 1, 1), (1, "s"), ("", 1), ("ss", 1), ("sls", 1), ("S", 1), (b"s", 1), ("x", 1),
    ("s", 0), ("s", -1), ("s", True), ("s", 1.0), ("s", "1"), ("s", None), (None, 1), (["s"], 1), (0, "s", 1), Clumsy(),
    ("s", Clumsy()), (Clumsy(), 1),
]
WRONG_KINDS = [(value, errors.InvalidKinds, {"index": None}) for value in NO_KINDS]
WRONG_KINDS += [([item], errors.InvalidKinds, {"index": 0}) for item in NO_PAIRS]
WRONG_KINDS += [([("sl", 2)] * 99 + [item], errors.InvalidKinds, {"index": 99}) for item in NO_PAIRS]
WRONG_KINDS += [([("s", 1), ("l", 0), None], errors.InvalidKinds, {"index": 1})]
WRONG_COUNTS = [(value, errors.InvalidNumber, {}) for value in [*NO_INTEGERS, -1, -GREAT]]
WRONG_TICKS = [(value, errors.InvalidTick, {}) for value in NO_INTEGERS]


def check_errors(case, call, *columns):
    """Each wrong argument raises its error, whatever comes behind it.

    A column is the right value of an argument and its wrong ones, each with
    the error and its fields.
    """
    for place, (_, wrong) in enumerate(columns):
        ahead = [right for right, _ in columns[:place]]
        for value, kind, told in wrong:
            check_raises(case, kind, told, call, *ahead, value, *[right for right, _ in columns[place + 1:]])
            check_raises(case, kind, told, call, *ahead, value, *[rest[-1][0] for _, rest in columns[place + 1:]])


def check_raises(case, kind, told, call, *arguments):
    """The call raises just this error with these fields, and leaves its arguments as they were."""
    before = repr(arguments)
    with case.subTest(call=call.__name__, arguments=arguments):
        with case.assertRaises(errors.KeyerError) as caught:
            call(*arguments)
        case.assertIs(type(caught.exception), kind)
        case.assertEqual(repr(vars(caught.exception)), repr(told))
        case.assertEqual(repr(arguments), before)


def check_returns(case, expected, call, *arguments):
    """The call returns this value, each list anew, and leaves its arguments as they were."""
    before = copy.deepcopy(arguments)
    with case.subTest(call=call.__name__, arguments=arguments):
        found = call(*arguments)
        # True is equal to 1, but its text is another one.
        case.assertEqual(repr(found), repr(expected))
        case.assertEqual(repr(arguments), repr(before))
        if isinstance(found, list):
            found.append("spoilt")
            case.assertEqual(repr(arguments), repr(before))
            case.assertEqual(repr(call(*arguments)), repr(expected))
