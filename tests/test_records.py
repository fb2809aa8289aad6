"""Records [5] and part 2 [11] [12]."""

import itertools
import unittest

from squeezedkeyer.errors import InvalidLever, InvalidNumber, InvalidRecord, InvalidTick, TooLarge
from squeezedkeyer.records import (
    down_stretches, exchanged, is_down, is_record, joined, moved, multiplied, shifted,
)
from tests.helpers import (
    GREAT, NO_INTEGERS, NO_LEVERS, NO_LISTS, RECORD, STRANGE, Clumsy, check_raises, check_returns, replaced, touches,
)

RIGHT = [
    [],
    RECORD,
    [(0, "s", True), (0, "s", False)],
    [(7, "l", True), (7, "l", False), (7, "l", True), (7, "l", False)],
    [(-9, "s", True), (-3, "l", True), (-3, "s", False), (0, "l", False)],
    [(-GREAT, "l", True), (GREAT, "s", True), (GREAT, "l", False), (GREAT, "s", False)],
    [(5, "s", True), (5, "l", True), (5, "s", False), (5, "l", False)],
    touches(198),
    touches(200),
]

NO_EVENTS = STRANGE + [
    0, "", "0s+", [0, "s", True], (0, "s"), (0, "s", True, 0), (0, ["s"], True), ("s", 0, True), ((0, "s", True),),
    (0, "s", 1), (0, "s", 0), (0, "s", None), (0, "s", "True"), (0, "", True), (0, "ss", True), (0, "S", True),
    (0, None, True), (0, 0, True), (True, "s", True), (False, "s", True), (0.0, "s", True), ("0", "s", True),
    (None, "s", True), ([0], "s", True), (Clumsy(), "s", True), (0, Clumsy(), True), (0, "s", Clumsy()),
]

# Lists with the index of the first item that is wrong.
WRONG = [
    # a tick less than that of the event before
    ([(0, "s", True), (-1, "s", False)], 1),
    ([(0, "s", True), (3, "l", True), (2, "s", False), (3, "l", False)], 2),
    ([(0, "s", True), (4, "s", False), (3, "l", True), (9, "l", False)], 2),
    ([(GREAT, "s", True), (GREAT - 1, "s", False)], 1),
    # no press, no release
    ([(0, "s", False)], 0),
    ([(0, "l", False), (1, "l", True)], 0),
    ([(0, "s", True), (1, "l", False), (2, "s", False)], 1),
    ([(0, "s", True), (1, "s", True), (2, "s", False)], 1),
    ([(0, "s", True), (1, "s", False), (1, "s", False)], 2),
    ([(0, "s", True), (1, "l", True), (2, "s", False), (3, "l", True)], 3),
    # a lever is down at the end
    ([(0, "s", True)], 1),
    ([(0, "l", True)], 1),
    ([(0, "s", True), (1, "l", True)], 2),
    ([(0, "s", True), (1, "l", True), (2, "s", False)], 3),
    ([(0, "s", True), (1, "l", True), (2, "l", False)], 3),
    ([(0, "s", True), (1, "s", False), (2, "s", True)], 3),
    (touches(199), 199),
    (touches(199) + [(2000, "l", True)], 200),
    # the first of several
    ([(0, "s", True), (1, "s", True), None, (0, "l", False)], 1),
    ([(0, "s", True), None, (1, "s", True)], 1),
    ([(0, "s", True), (-1, "s", True), (-1, "s", False)], 1),
    ([None, None], 0),
    ([(0, "s", True), (2, "s", False), (1, "l", False)], 2),
    # too many
    (touches(201), None),
    (touches(202), None),
    ([None] * 201, None),
    ([None] * 200, 0),
]
WRONG += [(value, None) for value in NO_LISTS]
WRONG += [(value + [(GREAT, "s", True)], len(value) + 1) for value in RIGHT if len(value) < 200]
WRONG += [([item], 0) for item in NO_EVENTS]
WRONG += [(RECORD[:2] + [item] + RECORD[2:], 2) for item in NO_EVENTS]
WRONG += [(RECORD + [item], 4) for item in NO_EVENTS]


class RecordsTest(unittest.TestCase):
    def raises(self, kind, told, call, *arguments):
        check_raises(self, kind, told, call, *arguments)

    def returns(self, expected, call, *arguments):
        check_returns(self, expected, call, *arguments)


class IsRecordTest(RecordsTest):
    def test_right_values(self):
        for value in RIGHT:
            self.returns(True, is_record, value)

    def test_wrong_values(self):
        for value, _ in WRONG:
            with self.subTest(value=value):
                before = repr(value)
                self.assertIs(is_record(value), False)
                self.assertEqual(repr(value), before)

    def test_every_list_of_few_events(self):
        events = [(tick, lever, is_press) for tick in range(2) for lever in "sl" for is_press in (True, False)]
        for many in range(5):
            for items in itertools.product(events, repeat=many):
                ticks = [tick for tick, _, _ in items]
                presses = ["".join("+" if item[2] else "-" for item in items if item[1] == lever) for lever in "sl"]
                expected = ticks == sorted(ticks) and all(not signs.replace("+-", "") for signs in presses)
                if is_record(list(items)) is not expected:
                    self.fail(items)


class FirstErrorTest(RecordsTest):
    def test_wrong_records_come_first(self):
        for value, index in WRONG:
            told = {"index": index}
            self.raises(InvalidRecord, told, exchanged, value)
            for lever, tick in [("s", 0), (None, None)]:
                self.raises(InvalidRecord, told, is_down, value, lever, tick)
                self.raises(InvalidRecord, told, down_stretches, value, lever)
            for number in [1, None]:
                self.raises(InvalidRecord, told, shifted, value, number)
                self.raises(InvalidRecord, told, multiplied, value, number)
                self.raises(InvalidRecord, told, moved, value, number, number)
            self.raises(InvalidRecord, told, joined, value, RECORD)
            self.raises(InvalidRecord, told, joined, RECORD, value)
            self.raises(InvalidRecord, told, joined, touches(200), value)

    def test_the_first_of_two_wrong_records_is_told(self):
        one, other = RECORD[:2], [(9, "s", True), (3, "s", False)]
        self.raises(InvalidRecord, {"index": 2}, joined, one, other)
        self.raises(InvalidRecord, {"index": 1}, joined, other, one)
        self.raises(InvalidRecord, {"index": None}, joined, None, one)

    def test_wrong_levers(self):
        for value in NO_LEVERS:
            for record in [[], RECORD]:
                self.raises(InvalidLever, {}, down_stretches, record, value)
                self.raises(InvalidLever, {}, is_down, record, value, 0)
                self.raises(InvalidLever, {}, is_down, record, value, None)

    def test_wrong_ticks(self):
        for value in NO_INTEGERS:
            for record in [[], RECORD]:
                self.raises(InvalidTick, {}, is_down, record, "l", value)


class IsDownTest(RecordsTest):
    def test_before_at_and_behind_each_event(self):
        for tick, s, l in [(-1, False, False), (0, True, False), (3, True, False), (4, True, True), (8, True, True),
                           (9, False, False), (10, False, False), (-GREAT, False, False), (GREAT, False, False)]:
            self.returns(s, is_down, RECORD, "s", tick)
            self.returns(l, is_down, RECORD, "l", tick)

    def test_several_events_of_one_tick(self):
        record = [(3, "s", True), (3, "s", False), (3, "s", True), (8, "l", True), (8, "s", False), (8, "l", False)]
        for tick, expected in [(2, False), (3, True), (4, True), (7, True), (8, False)]:
            self.returns(expected, is_down, record, "s", tick)
            self.returns(False, is_down, record, "l", tick)

    def test_levers_that_are_pressed_again(self):
        record = [(-9, "l", True), (-5, "l", False), (-2, "l", True), (4, "l", False)]
        for tick, expected in [(-10, False), (-9, True), (-6, True), (-5, False), (-3, False), (-2, True), (3, True)]:
            self.returns(expected, is_down, record, "l", tick)

    def test_great_ticks_and_no_events(self):
        record = [(-GREAT, "s", True), (GREAT, "s", False)]
        for tick, expected in [(-GREAT - 1, False), (-GREAT, True), (0, True), (GREAT - 1, True), (GREAT, False)]:
            self.returns(expected, is_down, record, "s", tick)
        self.returns(False, is_down, [], "s", 0)


class DownStretchesTest(RecordsTest):
    def test_each_lever_by_itself(self):
        record = [(-4, "s", True), (0, "l", True), (0, "s", False), (0, "s", True), (5, "l", False), (5, "l", True),
                  (5, "l", False), (9, "s", False)]
        self.returns([(-4, 0), (0, 9)], down_stretches, record, "s")
        self.returns([(0, 5), (5, 5)], down_stretches, record, "l")

    def test_levers_without_events(self):
        self.returns([], down_stretches, [], "s")
        self.returns([], down_stretches, touches(4), "l")

    def test_most_events(self):
        expected = [(tick, tick) for tick in range(0, 1000, 10)]
        self.returns(expected, down_stretches, touches(200), "s")


class ShiftedTest(RecordsTest):
    def test_all_ticks(self):
        self.returns([(-3, "s", True), (1, "l", True), (6, "s", False), (6, "l", False)], shifted, RECORD, -3)
        self.returns([(5, "s", True), (9, "l", True), (14, "s", False), (14, "l", False)], shifted, RECORD, 5)
        self.returns([(GREAT, "s", True), (GREAT, "s", False)], shifted, [(0, "s", True), (0, "s", False)], GREAT)

    def test_nothing_changes(self):
        for record in RIGHT:
            self.returns(record, shifted, record, 0)
        self.returns([], shifted, [], 8)

    def test_wrong_numbers(self):
        for value in NO_INTEGERS:
            self.raises(InvalidNumber, {}, shifted, RECORD, value)
            self.raises(InvalidNumber, {}, shifted, [], value)


class MultipliedTest(RecordsTest):
    def test_all_ticks(self):
        self.returns([(0, "s", True), (40, "l", True), (90, "s", False), (90, "l", False)], multiplied, RECORD, 10)
        self.returns([(-6, "l", True), (4, "l", False)], multiplied, [(-3, "l", True), (2, "l", False)], 2)
        great = [(-GREAT * GREAT, "s", True), (GREAT * GREAT, "s", False)]
        self.returns(great, multiplied, [(-GREAT, "s", True), (GREAT, "s", False)], GREAT)
        self.returns(great, shifted, great, 0)

    def test_nothing_changes(self):
        for record in RIGHT:
            self.returns(record, multiplied, record, 1)
        self.returns([], multiplied, [], 8)

    def test_wrong_numbers(self):
        for value in NO_INTEGERS + [0, -1, -GREAT]:
            self.raises(InvalidNumber, {}, multiplied, RECORD, value)
            self.raises(InvalidNumber, {}, multiplied, [], value)


class ExchangedTest(RecordsTest):
    def test_levers(self):
        expected = [(0, "l", True), (4, "s", True), (9, "l", False), (9, "s", False)]
        self.returns(expected, exchanged, RECORD)
        self.returns(RECORD, exchanged, expected)

    def test_twice_is_the_record(self):
        for record in RIGHT:
            self.returns(record, exchanged, exchanged(record))


class JoinedTest(RecordsTest):
    def test_events_of_both(self):
        other = [(9, "l", True), (9, "l", False)]
        self.returns(RECORD + other, joined, RECORD, other)
        self.returns(RECORD + [(70, "l", True), (75, "l", False)], joined, RECORD, [(70, "l", True), (75, "l", False)])

    def test_a_record_with_itself(self):
        touch = [(3, "s", True), (3, "s", False)]
        self.returns(touch + touch, joined, touch, touch)

    def test_records_without_events(self):
        for record in RIGHT:
            self.returns(record, joined, record, [])
            self.returns(record, joined, [], record)

    def test_second_record_begins_too_early(self):
        for tick in [8, 0, -GREAT]:
            other = [(tick, "l", True), (20, "l", False)]
            self.raises(InvalidTick, {}, joined, RECORD, other)
        self.raises(InvalidTick, {}, joined, [(-5, "s", True), (-2, "s", False)], [(-3, "s", True), (9, "s", False)])

    def test_too_many_events(self):
        limit = {"limit": 200}
        for one, other in [(200, 2), (2, 200), (100, 102), (200, 200)]:
            self.raises(TooLarge, limit, joined, touches(one), shifted(touches(other), 5000))
        for one, other in [(198, 2), (2, 198), (100, 100), (200, 0), (0, 200)]:
            second = shifted(touches(other), 5000)
            self.returns(touches(one) + second, joined, touches(one), second)

    def test_the_tick_comes_ahead_of_the_number(self):
        self.raises(InvalidTick, {}, joined, touches(200), touches(200))


class MovedTest(RecordsTest):
    def test_each_tick_between_the_neighbours(self):
        for index, low, high in [(0, -6, 4), (1, 0, 9), (2, 4, 9), (3, 9, 15)]:
            for tick in range(low, high + 1):
                expected = replaced(RECORD, index, (tick, *RECORD[index][1:]))
                self.returns(expected, moved, RECORD, index, tick)
                self.assertTrue(is_record(expected))

    def test_ticks_out_of_the_neighbours(self):
        for index, tick in [(0, 5), (1, -1), (1, 10), (2, 3), (2, 10), (3, 8), (0, GREAT), (3, -GREAT)]:
            self.raises(InvalidTick, {}, moved, RECORD, index, tick)

    def test_the_ends_are_open(self):
        self.returns(replaced(RECORD, 0, (-GREAT, "s", True)), moved, RECORD, 0, -GREAT)
        self.returns(replaced(RECORD, 3, (GREAT, "l", False)), moved, RECORD, 3, GREAT)

    def test_nothing_changes(self):
        for record in RIGHT:
            for index in range(min(len(record), 6)):
                self.returns(record, moved, record, index, record[index][0])

    def test_wrong_indexes(self):
        for value in NO_INTEGERS + [-1, -4, 4, 5, 200, GREAT, -GREAT, 10 ** 50]:
            for tick in [9, None]:
                self.raises(InvalidNumber, {}, moved, RECORD, value, tick)
        for value in [0, -1, 1, None]:
            self.raises(InvalidNumber, {}, moved, [], value, 0)

    def test_wrong_ticks(self):
        for value in NO_INTEGERS:
            for index in range(4):
                self.raises(InvalidTick, {}, moved, RECORD, index, value)


if __name__ == "__main__":
    unittest.main()
