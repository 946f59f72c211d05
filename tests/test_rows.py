"""Points [22] and [23], with points [2], [3], [9] and [10]: rows."""

import unittest
from functools import lru_cache
from itertools import accumulate, product
from math import comb

from lazyspill.errors import InvalidNumber, InvalidRow, InvalidTop, InvalidTrace, TooLong
from lazyspill.plans import counts_of, lazy_plan
from lazyspill.rows import (
    count_quiet, count_traces, is_row, row_of, sum_written, trace_of_row, written_along, written_by,
)
from tests.samples import (
    ANY_VALUES, HILL, MOST_REGISTERS, SLOPE, closed_traces, depth_at, ends_by_definition, first_error,
    long_traces, number_error, raised, registers_error, returns_new_list, row_by_definition, row_error,
    top_error, trace_error, traces_up_to,
)

MACHINES = ((1, 0), (1, 1), (2, 0), (2, 1), (2, 2), (3, 0), (5, 2), (9, 0), (MOST_REGISTERS, 0), (1500, 1000))


def rows_with(total):
    """Return all rows with this sum."""
    found = [[]] if total == 0 else []
    for first in range(1, total + 1):
        found += [[first, *others] for others in rows_with(total - first) if first >= max(others, default=0)]
    return found


def rows_up_to(total):
    return [row for many in range(total + 1) for row in rows_with(many)]


@lru_cache(None)
def trees_within(calls, room):
    """Return how many calls around other ones, so many in all, have a height of at most the room."""
    return forests_within(calls - 1, room - 1) if calls > 0 and room > 0 else 0


@lru_cache(None)
def forests_within(calls, room):
    """Return how many closed traces with so many calls have no height above the room."""
    if calls == 0:
        return 1
    return sum(trees_within(first, room) * forests_within(calls - first, room) for first in range(1, calls + 1))


@lru_cache(None)
def high_calls(calls, room):
    """Return how many calls with a height above the room all closed traces with so many calls have."""
    total = 0
    for first in range(1, calls + 1):
        others = forests_within(calls - first, calls)
        high = trees_within(first, calls) - trees_within(first, room)
        total += (high + high_calls(first - 1, room)) * others
        total += trees_within(first, calls) * high_calls(calls - first, room)
    return total


class ExamplesTest(unittest.TestCase):

    def test_examples(self):
        self.assertEqual([row_of(HILL, 0), row_of(HILL, 1)], [[2, 2, 2, 2, 1], [2, 2, 2, 2]])
        self.assertEqual([written_by(row_of(HILL, 0), room) for room in range(6)], [9, 7, 5, 3, 1, 0])
        rows = [[4], [3, 1], [2, 2], [2, 1, 1], [1, 1, 1, 1]]
        self.assertEqual([count_traces(row) for row in rows], [1, 6, 1, 5, 1])
        self.assertEqual([count_quiet(3, 2), sum_written(3, 1), len(trace_of_row([2, 1], 1))], [4, 5, 8])


class RowOfTest(unittest.TestCase):

    def test_short_traces(self):
        for trace in traces_up_to(9):
            for top in range(4):
                row = row_of(trace, top)
                self.assertEqual(row, row_by_definition(trace, top), (trace, top))
                self.assertIs(is_row(row), True)

    def test_long_traces(self):
        for trace in long_traces(3):
            for top in (0, 1, 17, 1000):
                self.assertEqual(row_of(trace, top), row_by_definition(trace, top))

    def test_edges(self):
        self.assertEqual([row_of("", 0), row_of("+", 1), row_of("+-" * 9, 1), row_of(HILL, 5)], [[], [], [], []])
        self.assertEqual([row_of("+" * 1000, 0), row_of("+" * 1000, 999), row_of("+" * 1000, 1000)], [[1] * 1000, [1], []])
        self.assertEqual([row_of("+-" * 500, 0), row_of(SLOPE, 0), row_of(SLOPE + "++", 0)], [[500], [1] * 5, [2, 2, 1, 1, 1]])


class WrittenByTest(unittest.TestCase):

    def test_rows_of_traces_give_the_words_of_the_lazy_plan(self):
        for trace in [*traces_up_to(8), *long_traces(2)]:
            for registers, top in MACHINES:
                written = counts_of(trace, registers, top, lazy_plan(trace, registers, top))[0]
                self.assertEqual(written_by(row_of(trace, top), registers - top), written)

    def test_all_small_rows(self):
        for row in rows_up_to(6):
            for room in range(9):
                items = [item for index, item in enumerate(row) if index + 1 > room]
                self.assertEqual(written_by(row, room), sum(items))

    def test_edges(self):
        self.assertEqual([written_by([], 0), written_by([], 10 ** 30 - 1), written_by([3, 1], 10 ** 30 - 1)], [0, 0, 0])
        self.assertEqual(written_by([10 ** 30 - 1] * 1000, 1), 999 * (10 ** 30 - 1))
        self.assertEqual(written_by([10 ** 29] * 3, 3), 0)


class WrittenAlongTest(unittest.TestCase):

    def test_changes_of_the_lazy_plan(self):
        for trace in [*traces_up_to(7), *long_traces(2)]:
            for registers, top in MACHINES:
                plan = [0]
                for lower, upper in ends_by_definition(trace, registers, top)[1:]:
                    plan.append(max(lower, min(upper, plan[-1])))
                rises = [after - before for before, after in zip(plan, plan[1:])]
                written = [0, *accumulate([max(rise, 0) for rise in rises])]
                read = [0, *accumulate([max(-rise, 0) for rise in rises])]
                along = written_along(trace, registers, top)
                self.assertEqual(along, list(zip(written, read)), (trace, registers, top))
                self.assertTrue(all(type(pair) is tuple for pair in along))

    def test_calls_above_the_room_at_each_moment(self):
        for trace in traces_up_to(7):
            for registers, top in ((1, 0), (2, 0), (2, 1), (3, 0)):
                along = written_along(trace, registers, top)
                for moment, (written, read) in enumerate(along):
                    row = row_by_definition(trace[:moment], top)
                    self.assertEqual(written, sum(row[registers - top:]))

    def test_edges(self):
        self.assertEqual(written_along("", 1, 0), [(0, 0)])
        self.assertEqual(written_along("+++--", 1, 1), [(0, 0), (0, 0), (1, 0), (2, 0), (2, 1), (2, 2)])
        self.assertEqual(written_along("+" * 1000, MOST_REGISTERS, 0), [(0, 0)] * 1001)


class IsRowTest(unittest.TestCase):

    def test_short_lists(self):
        for length in range(5):
            for items in product((-1, 0, 1, 2, 3, True, None), repeat=length):
                value = list(items)
                wanted = row_error(value)
                self.assertIs(is_row(value), wanted is None, value)
                for function, more in ((written_by, [0]), (trace_of_row, [0]), (count_traces, [])):
                    self.assertEqual(raised(function, value, *more), wanted, value)

    def test_the_greatest_length(self):
        self.assertIs(is_row([7] * 500 + [1] * 500), True)
        self.assertIs(is_row([1] * 1001), False)
        self.assertIs(is_row([1] * 999 + [2]), False)
        self.assertEqual(raised(written_by, [1] * 1001, 0), (InvalidRow, None))
        self.assertEqual(raised(written_by, [1] * 999 + [2], 0), (InvalidRow, 999))
        self.assertEqual(raised(written_by, [0] * 1001, 0), (InvalidRow, None))

    def test_great_items(self):
        self.assertIs(is_row([10 ** 30 - 1, 10 ** 30 - 1, 1]), True)
        self.assertIs(is_row([10 ** 30 - 2, 10 ** 30 - 1]), False)

    def test_any_value(self):
        for value in ANY_VALUES:
            self.assertIs(is_row(value), row_error(value) is None, value)


class TraceOfRowTest(unittest.TestCase):

    def test_small_rows(self):
        for row in rows_up_to(8):
            for top in range(4):
                trace = trace_of_row(row, top)
                self.assertIsNone(trace_error(trace))
                self.assertEqual(depth_at(trace, len(trace)), 0)
                self.assertEqual(row_by_definition(trace, top), row)
                self.assertEqual(len(trace), 2 * sum(row) + 2 * top if row else 0)

    def test_no_closed_trace_is_shorter(self):
        shortest = {}
        for pushes in range(8):
            for trace in closed_traces(pushes):
                for top in range(4):
                    shortest.setdefault((top, *row_by_definition(trace, top)), len(trace))
        for (top, *row), steps in shortest.items():
            self.assertEqual(len(trace_of_row(row, top)), steps)

    def test_the_greatest_length(self):
        fitting = (
            ([500], 0), ([1] * 500, 0), ([1], 499), ([100] * 5, 0), ([300, 100, 7], 93), ([2, 1], 497), ([], 1000),
        )
        for row, top in fitting:
            trace = trace_of_row(row, top)
            self.assertEqual(row_of(trace, top), row)
            self.assertEqual(len(trace), 1000 if row else 0)
        for row, top in (([501], 0), ([1] * 501, 0), ([1], 500), ([300, 101, 7], 93), ([1], 1000), ([1] * 1000, 0)):
            self.assertEqual(raised(trace_of_row, row, top), (TooLong, 1000))
        self.assertEqual(raised(trace_of_row, [10 ** 30 - 1] * 1000, 0), (TooLong, 1000))


class CountTest(unittest.TestCase):

    def test_all_closed_traces(self):
        for pushes in range(9):
            found = {}
            for trace in closed_traces(pushes):
                row = tuple(row_by_definition(trace, 0))
                found[row] = found.get(row, 0) + 1
            for row in rows_with(pushes):
                self.assertEqual(count_traces(row), found.get(tuple(row), 0), row)
            for room in range(pushes + 3):
                quiet = sum(many for row, many in found.items() if len(row) <= room)
                written = sum(many * sum(row[room:]) for row, many in found.items())
                self.assertEqual(count_quiet(pushes, room), quiet)
                self.assertEqual(sum_written(pushes, room), written)

    def test_rows_of_a_sum_count_all_traces(self):
        for pushes in (10, 15, 20):
            total = {}
            for row in rows_with(pushes):
                for room in (0, 2, 3, 10):
                    quiet, written = total.get(room, (0, 0))
                    many = count_traces(row)
                    total[room] = (quiet + many * (len(row) <= room), written + many * sum(row[room:]))
            for room, counts in total.items():
                self.assertEqual((count_quiet(pushes, room), sum_written(pushes, room)), counts)

    def test_more_pushes(self):
        for pushes, room in ((30, 4), (30, 12), (60, 1), (60, 5), (200, 2), (200, 3)):
            self.assertEqual(count_quiet(pushes, room), forests_within(pushes, room))
            self.assertEqual(sum_written(pushes, room), high_calls(pushes, room))

    def test_edges(self):
        catalan = comb(400, 200) // 201
        self.assertEqual([count_quiet(200, 200), count_quiet(200, 199), count_quiet(200, 1)], [catalan, catalan - 1, 1])
        self.assertEqual([count_quiet(200, 10 ** 30 - 1), count_quiet(200, 0)], [catalan, 0])
        self.assertEqual([sum_written(200, 0), sum_written(200, 199), sum_written(200, 200)], [200 * catalan, 1, 0])
        self.assertEqual(sum_written(200, 10 ** 30 - 1), 0)
        self.assertEqual([count_quiet(0, 0), count_quiet(0, 9), sum_written(0, 0), sum_written(0, 9)], [1, 1, 0, 0])
        self.assertEqual([count_quiet(1, 0), count_quiet(1, 1), sum_written(1, 0), sum_written(1, 1)], [0, 1, 1, 0])
        self.assertEqual([count_traces([]), count_traces([300]), count_traces([1] * 300)], [1, 1, 1])
        self.assertEqual(count_traces([150, 150]), 1)
        self.assertEqual(count_traces([299, 1]), comb(300, 2))


class ErrorsTest(unittest.TestCase):

    def test_any_values_for_each_parameter(self):
        for value in ANY_VALUES:
            self.assertEqual(raised(row_of, value, 0), trace_error(value))
            self.assertEqual(raised(row_of, "+", value), top_error(value))
            self.assertEqual(raised(written_along, value, 3, 0), trace_error(value))
            self.assertEqual(raised(written_along, "++-", value, 0), registers_error(value))
            self.assertEqual(raised(written_along, "++-", 3, value), top_error(value, 3))
            self.assertEqual(raised(written_by, value, 0), row_error(value))
            self.assertEqual(raised(written_by, [2, 1], value), number_error(value))
            self.assertEqual(raised(trace_of_row, [], value), top_error(value))
            self.assertEqual(raised(count_quiet, value, 0), number_error(value, 0, 200))
            self.assertEqual(raised(count_quiet, 3, value), number_error(value))
            self.assertEqual(raised(sum_written, value, 0), number_error(value, 0, 200))
            self.assertEqual(raised(sum_written, 3, value), number_error(value))
            if row_error(value) is not None:
                self.assertEqual(raised(count_traces, value), row_error(value))
                self.assertEqual(raised(trace_of_row, value, 0), row_error(value))

    def test_the_first_wrong_parameter_counts(self):
        rows = ([], [2, 1], [1, 2], [1, 2, 0], [0], None, [1] * 501, [1] * 1001, True, "1")
        numbers = (0, 1, 499, 1000, 1001, -1, True, None, "1", 10 ** 30)
        for row, number in product(rows, numbers):
            wanted = first_error([row_error(row), number_error(number)])
            self.assertEqual(raised(written_by, row, number), wanted)
            wanted = first_error([row_error(row), top_error(number)])
            if wanted is None and row and sum(row) + number > 500:
                wanted = (TooLong, 1000)
            self.assertEqual(raised(trace_of_row, row, number), wanted)
        for trace, registers, top in product(("+", "+--", None), numbers, numbers):
            wanted = first_error([trace_error(trace), registers_error(registers)]) or top_error(top, registers)
            self.assertEqual(raised(written_along, trace, registers, top), wanted)
            self.assertEqual(raised(row_of, trace, top), first_error([trace_error(trace), top_error(top)]))

    def test_numbers_at_the_edges(self):
        for function in (count_quiet, sum_written):
            for pushes, room, wanted in (
                (200, 0, None), (201, 0, (InvalidNumber,)), (-1, 0, (InvalidNumber,)), (3, -1, (InvalidNumber,)),
                (0, 10 ** 30 - 1, None), (10 ** 30, 10 ** 30, (InvalidNumber,)), (True, 0, (InvalidNumber,)),
            ):
                self.assertEqual(raised(function, pushes, room), wanted)
        self.assertEqual(raised(row_of, "+-x", 1001), (InvalidTrace, 2))
        self.assertEqual(raised(row_of, "+-+", 1001), (InvalidTop,))
        self.assertEqual(raised(trace_of_row, [501], 1001), (InvalidTop,))


class ConventionsTest(unittest.TestCase):

    def test_by_name(self):
        self.assertEqual(row_of(top=1, trace="++"), [1])
        self.assertEqual(written_by(room=1, row=[2, 1]), 1)
        self.assertEqual(written_along(top=0, registers=1, trace="++"), [(0, 0), (0, 0), (1, 0)])
        self.assertIs(is_row(value=[2, 1]), True)
        self.assertEqual(trace_of_row(top=1, row=[1]), "++--")
        self.assertEqual(count_traces(row=[3, 1]), 6)
        self.assertEqual(count_quiet(room=2, pushes=3), 4)
        self.assertEqual(sum_written(room=1, pushes=3), 5)

    def test_returned_lists_are_new(self):
        for function, args in ((row_of, (HILL, 0)), (written_along, (HILL, 3, 0))):
            self.assertTrue(returns_new_list(function, *args))

    def test_arguments_stay_as_they_are(self):
        for row in ([2, 2, 1], [1, 2], [[1], 0], []):
            kept = [item.copy() if isinstance(item, list) else item for item in row]
            is_row(row)
            for function, more in ((written_by, [1]), (trace_of_row, [1]), (count_traces, [])):
                raised(function, row, *more)
            self.assertEqual(row, kept)


if __name__ == "__main__":
    unittest.main()
