"""[20]: the greatest value of a goal over rows."""

import copy
import random
import unittest

from heldthrough.programs import Board, is_solved, likely_rows, limit_lines, line_of_no_way, line_too_low, pivoted, solved
from tests.timed import TimedCase
from tests.values import ANY_VALUES, others
from tests.words import dot, is_solved_by_words


def made_rows(draw, many=None, size=None):
    """Return rows and a goal."""
    unknowns, count, size = draw.randint(1, 8), draw.randint(0, 16) if many is None else many, size or draw.choice((1, 2, 9, 30000))
    full = draw.random()

    def numbers():
        return tuple(draw.randint(-size, size) if draw.random() < full else 0 for _ in range(unknowns))

    rows = [(draw.choice(("=", "<=", "<=", "<=")), numbers(), draw.randint(-size, size)) for _ in range(count)]
    if draw.random() < 0.6:
        point = [draw.randint(-3, 3) for _ in range(unknowns)]
        rows = [(sign, row, int(dot(row, point)) + (0 if sign == "=" else draw.choice((0, 0, 1, size)))) for sign, row, _ in rows]
    return tuple(rows), numbers()


class Solved(TimedCase):
    def solve(self, rows, goal, word):
        before = copy.deepcopy((rows, goal))
        found = solved(rows, goal)
        self.assertEqual((rows, goal), before)
        self.assertEqual(found[0], word)
        self.assertTrue(is_solved_by_words(rows, goal, found), found)
        self.assertIs(is_solved(rows, goal, found), True)
        self.assertEqual(solved(rows, goal), found)
        return found

    def test_no_rows(self):
        self.assertEqual(self.solve((), (0,), "at")[1], (0, 1))
        self.solve((), (0, 0, 0), "at")
        self.solve((), (3,), "endless")
        self.solve((), (0, -2, 0), "endless")

    def test_rows_of_noughts(self):
        for sign, bound, word in (("<=", 0, "at"), ("<=", 5, "at"), ("<=", -1, "none"), ("=", 0, "at"), ("=", 1, "none"), ("=", -1, "none")):
            self.solve(((sign, (0, 0), bound),), (0, 0), word)
            self.solve((("<=", (1, 1), 4), (sign, (0, 0), bound)), (2, 2), word)
            self.solve(((sign, (0, 0), bound), ("=", (1, 1), 4)), (1, 0), "none" if word == "none" else "endless")

    def test_one_unknown(self):
        for rows, goal, word, value in (
            ((("<=", (2,), 3), ("<=", (-1,), 0)), (1,), "at", (3, 2)), ((("<=", (2,), 3), ("<=", (-1,), 0)), (-1,), "at", (0, 1)),
            ((("<=", (2,), 3), ("<=", (-1,), 0)), (0,), "at", (0, 1)), ((("<=", (2,), 3),), (-4,), "endless", None), ((("<=", (-2,), 3),), (4,), "endless", None),
            ((("=", (3,), 5),), (-2,), "at", (-10, 3)), ((("=", (3,), 5), ("=", (6,), 10)), (1,), "at", (5, 3)), ((("=", (3,), 5), ("=", (6,), 9)), (1,), "none", None),
            ((("<=", (1,), 1), ("<=", (-1,), -2)), (1,), "none", None), ((("<=", (1,), 1), ("<=", (-1,), -1)), (7,), "at", (7, 1)),
            ((("<=", (1,), -5),), (1,), "at", (-5, 1)), ((("=", (3,), 5), ("<=", (-3,), -5), ("<=", (3,), 5)), (1,), "at", (5, 3)),
        ):
            found = self.solve(rows, goal, word)
            if word == "at":
                self.assertEqual(found[1], value)

    def test_two_unknowns(self):
        box = (("<=", (1, 0), 4), ("<=", (0, 1), 3), ("<=", (-1, 0), 0), ("<=", (0, -1), 0))
        for goal, value in (((1, 1), (7, 1)), ((1, -1), (4, 1)), ((-1, -1), (0, 1)), ((2, 5), (23, 1)), ((0, 0), (0, 1)), ((0, -3), (0, 1))):
            self.assertEqual(self.solve(box, goal, "at")[1], value)
            self.assertEqual(self.solve(tuple(reversed(box)), goal, "at")[1], value)
        self.assertEqual(self.solve((*box, ("<=", (2, 3), 9)), (1, 1), "at")[1:3], ((13, 3), ((4, 1), (1, 3))))
        self.solve((*box, ("<=", (-1, -1), -8)), (1, 1), "none")
        self.assertEqual(self.solve((*box, ("=", (-1, -1), -7)), (1, 5), "at")[2], ((4, 1), (3, 1)))

    def test_endless(self):
        self.solve((("<=", (1, -1), 0),), (1, 0), "endless")
        self.solve((("<=", (1, -1), 0), ("<=", (-1, 1), 0)), (1, 1), "endless")
        self.solve((("<=", (1, -1), 0), ("<=", (-1, 1), 0)), (1, -1), "at")
        self.solve((("=", (1, 1, 0), 3), ("<=", (-1, 0, 0), 0)), (0, -1, 0), "endless")
        self.solve((("=", (1, 1, 0), 3), ("<=", (-1, 0, 0), 0)), (0, 0, 1), "endless")
        self.solve((("<=", (-1, 0), -5), ("<=", (0, -1), -5)), (1, 1), "endless")

    def test_none_ahead_of_endless(self):
        self.solve((("<=", (1, 0), -1), ("<=", (-1, 0), 0)), (0, 1), "none")
        self.solve((("=", (1, 0), -1), ("=", (-1, 0), 0)), (0, 1), "none")

    def test_greedy_pivots_go_round(self):
        """Two known tables, from which the greatest gain leads round; multiplied so that slacks keep their size."""
        for rows, size, goal, value in (
            ((("<=", (1, -32, -4, 36), 0), ("<=", (2, -48, -2, 12), 0), ("<=", (0, 0, 4, 0), 4)), 4, (3, -80, 2, -24), (5, 1)),
            ((("<=", (1, -11, -5, 18), 0), ("<=", (1, -3, -1, 2), 0), ("<=", (2, 0, 0, 0), 2)), 2, (10, -57, -9, -24), (1, 1)),
        ):
            noughts = tuple(("<=", tuple(-size * (k == j) for j in range(4)), 0) for k in range(4))
            for given in (noughts + rows, rows + noughts, tuple(reversed(noughts + rows)), tuple(reversed(rows)) + noughts):
                self.assertEqual(self.solve(given, goal, "at")[1], value)
            for seed in range(100):
                given = list(noughts + rows)
                random.Random(seed).shuffle(given)
                self.assertEqual(self.solve(tuple(given), goal, "at")[1], value)
        noughts = tuple(("<=", tuple(-(k == j) for j in range(4)), 0) for k in range(4))
        self.solve((("<=", (1, -2, -1, 8), 0), ("<=", (3, -5, -2, 15), 0)) + noughts, (2, 3, -1, -12), "endless")

    def test_many_bounds_met_at_once(self):
        for seed in range(200):
            draw = random.Random(seed)
            rows = tuple(("<=", tuple(draw.randint(-2, 2) for _ in range(5)), 0) for _ in range(12))
            goal = tuple(draw.randint(-3, 3) for _ in range(5))
            found = solved(rows, goal)
            self.assertNotEqual(found[0], "none")
            self.assertTrue(is_solved_by_words(rows, goal, found))

    def test_by_chance(self):
        words = {"at": 0, "endless": 0, "none": 0}
        for seed in range(2500):
            rows, goal = made_rows(random.Random(seed))
            found = solved(rows, goal)
            words[found[0]] += 1
            self.assertTrue(is_solved_by_words(rows, goal, found), (rows, goal, found))
            self.assertIs(is_solved(rows, goal, found), True)
        self.assertGreater(min(words.values()), 300)

    def test_no_slack_falls_below_nought(self):
        """On the way to a POINT each slack that is not below 0 stays so; otherwise it need not end."""
        for seed in range(800):
            rows, goal = made_rows(random.Random(seed), many=10)
            board = WatchedBoard(rows, goal)
            if line_of_no_way(board) is None:
                board.falls = 0
                line_too_low(board)
                self.assertEqual(board.falls, 0)

    def test_great_numbers(self):
        for seed in range(40):
            draw = random.Random(seed)
            unknowns = 8
            rows = tuple((draw.choice(("<=", "<=", "=")) if k < 4 else "<=", tuple(draw.randint(-30000, 30000) for _ in range(unknowns)), draw.randint(-30000, 30000))
                         for k in range(16))
            goal = tuple(draw.randint(-30000, 30000) for _ in range(unknowns))
            self.assertTrue(is_solved_by_words(rows, goal, solved(rows, goal)))
        draw = random.Random(0)
        great = 10 ** 40 - 1
        rows = tuple(("<=", tuple(draw.randint(-great, great) for _ in range(8)), draw.randint(0, great)) for _ in range(16))
        self.assertTrue(is_solved_by_words(rows, (great,) * 8, solved(rows, (great,) * 8)))


    def test_short_numbers_that_mislead(self):
        """Rows that differ in their last figures alone are alike when they are shortened; what was left out is missed."""
        great, missed = 10 ** 39, 0
        for seed in range(300):
            draw = random.Random(seed)
            unknowns = draw.randint(1, 4)
            rows = []
            for _ in range(draw.randint(1, 4)):
                row, bound = [draw.randint(-3, 3) * great for _ in range(unknowns)], draw.randint(-1, 3) * great
                for _ in range(draw.randint(1, 3)):
                    near = tuple(number + draw.randint(-2, 2) for number in row)
                    rows.append((draw.choice(("<=", "<=", "<=", "=")) if draw.random() < 0.2 else "<=", near, bound + draw.randint(-2, 2)))
            goal = tuple(draw.randint(-3, 3) * great + draw.randint(-1, 1) for _ in range(unknowns))
            found = solved(tuple(rows), goal)
            self.assertTrue(is_solved_by_words(rows, goal, found), (rows, goal, found))
            short = pivoted([rows[index] for index in likely_rows(rows, goal)], goal)
            missed += short[0] != found[0] or short[1] != found[1]
        self.assertGreater(missed, 20)

    def test_great_bounds_alone(self):
        """Bounds may be much greater than numbers, as they are where STANDS of great dens are looked at."""
        for seed in range(200):
            draw = random.Random(seed)
            rows, goal = made_rows(draw, size=9)
            scale = 10 ** draw.choice((20, 100, 800))
            great = tuple((sign, numbers, bound * scale + draw.randint(0, 1)) for sign, numbers, bound in rows)
            self.assertTrue(is_solved_by_words(great, goal, solved(great, goal)))

    def test_at_the_bounds_of_branches(self):
        """48 rows over 16 unknowns, in three parts, dense, with numbers of forty digits."""
        draw, great = random.Random(5), 10 ** 40 - 1
        rows = tuple(("<=", tuple(draw.randint(-great, great) for _ in range(16)), draw.randint(0, great)) for _ in range(48))
        found = self.quick(solved, rows, rows[0][1])
        self.assertTrue(is_solved_by_words(rows, rows[0][1], found))

    def test_some_hundred_rows(self):
        for size in (9, 10 ** 9):
            for seed in range(3):
                draw = random.Random(seed)
                point = [draw.randint(-size, size) for _ in range(12)]
                rows = []
                for _ in range(300):
                    numbers = tuple(draw.randint(-size, size) for _ in point)
                    rows.append(("<=", numbers, int(dot(numbers, point)) + draw.randint(0, size)))
                goal = tuple(draw.randint(-size, size) for _ in point)
                self.assertTrue(is_solved_by_words(rows, goal, self.quick(solved, tuple(rows), goal)))


class WatchedBoard(Board):
    """A Board that counts the slacks that fall below 0."""

    falls = 0

    def low(self):
        return {self.inner[at] for at in limit_lines(self) if self.lines[at][-2] < 0}

    def exchange(self, at, column):
        before = self.low()
        Board.exchange(self, at, column)
        self.falls += len(self.low() - before)


class Judge(unittest.TestCase):
    ROWS = (("<=", (1, 1), 4), ("=", (1, -1), 1), ("<=", (0, -1), 0))
    AT = ("at", (5, 2), ((5, 2), (3, 2)), ((1, 2), (1, 2), (0, 1)))

    def judged(self, rows, goal, thing, found):
        self.assertIs(is_solved(rows, goal, thing), found, thing)

    def test_right(self):
        self.judged(self.ROWS, (1, 0), self.AT, True)
        self.judged((), (0, 0), ("at", (0, 1), ((5, 3), (-7, 1)), ()), True)
        self.judged((), (1, 0), ("endless", ((5, 3), (-7, 1)), ((1, 9), (4, 1))), True)

    def test_other_right_ones(self):
        rows = (("<=", (1, 0), 2), ("<=", (1, 0), 2), ("<=", (0, 1), 3), ("<=", (2, 0), 4))
        for point in (((2, 1), (3, 1)), ((2, 1), (0, 1)), ((2, 1), (-10 ** 30, 7))):
            for multipliers in (((1, 1), (0, 1), (0, 1), (0, 1)), ((1, 3), (2, 3), (0, 1), (0, 1)), ((0, 1), (0, 1), (0, 1), (1, 2)), ((1, 2), (1, 4), (0, 1), (1, 8))):
                self.judged(rows, (1, 0), ("at", (2, 1), point, multipliers), True)
        for point, way in ((((0, 1), (0, 1)), ((-1, 1), (0, 1))), (((2, 1), (3, 1)), ((-1, 2), (-5, 1))), (((1, 7), (-4, 1)), ((-10 ** 50, 1), (-1, 1)))):
            self.judged(rows, (-1, 0), ("endless", point, way), True)
        bare = (("<=", (1,), 1), ("<=", (-1,), -2), ("=", (1,), 5), ("=", (2,), 10))
        for multipliers in (((1, 1), (1, 1), (0, 1), (0, 1)), ((7, 2), (7, 2), (0, 1), (0, 1)), ((1, 1), (0, 1), (-1, 1), (0, 1)), ((2, 1), (0, 1), (0, 1), (-1, 1))):
            self.judged(bare, (1,), ("none", multipliers), True)

    def test_wrong(self):
        at = self.AT
        for thing in (
            ("at", (3, 1)) + at[2:], ("at", (5, 2), ((2, 1), (2, 1)), at[3]), ("at", (5, 2), ((3, 2), (1, 2)), at[3]), at[:3] + (((0, 1), (1, 1), (0, 1)),),
            at[:3] + (((1, 2), (1, 2), (1, 1)),), at[:3] + (((-1, 2), (1, 2), (0, 1)),), ("At",) + at[1:], ("endless",) + at[1:], ("none",) + at[1:], list(at), at[:3],
            at + ((),), ("at", (10, 4)) + at[2:], ("at", (5, 2), ((10, 4), (3, 2)), at[3]), at[:3] + (((2, 4), (1, 2), (0, 1)),), at[:3] + (((1, 2), (1, 2), (0, 2)),),
            ("at", [5, 2]) + at[2:], ("at", 2) + at[2:], ("at", (5, 2), list(at[2]), at[3]), at[:3] + (list(at[3]),), at[:3] + (at[3][:2],), at[:3] + (at[3] + ((0, 1),),),
            ("at", (5, 2), at[2][:1], at[3]), ("at", (5, 2), at[2] + ((0, 1),), at[3]), at[:3] + (((1, 2), (1, 2), (False, 1)),), at[:3] + (((1, 2), (1, 2), (0, True)),),
            (True,) + at[1:], (at,), ("none", at[3]), ("endless", at[2], ((0, 1), (0, 1))), at[1:],
        ):
            self.judged(self.ROWS, (1, 0), thing, False)

    def test_multipliers_below_nought(self):
        rows = (("<=", (1,), 1), ("<=", (2,), 5), ("=", (-1,), 3))
        self.judged(rows, (1,), ("at", (-3, 1), ((-3, 1),), ((0, 1), (0, 1), (-1, 1))), True)
        self.judged(rows, (1,), ("at", (-3, 1), ((-3, 1),), ((-1, 1), (1, 1), (0, 1))), False)
        self.judged((("<=", (1,), 1), ("<=", (2,), 1)), (1,), ("none", ((2, 1), (-1, 1))), False)
        self.judged((("<=", (1,), 1), ("<=", (2,), 3)), (1,), ("none", ((2, 1), (-1, 1))), False)
        self.judged((("<=", (1,), 0), ("<=", (-1,), 0)), (1,), ("none", ((1, 1), (1, 1))), False)
        self.judged((("<=", (1,), 0), ("<=", (-1,), -1)), (1,), ("none", ((1, 1), (1, 1))), True)

    def test_ways(self):
        rows = (("<=", (1, -1), 0), ("=", (0, 0), 0))
        point = ((0, 1), (0, 1))
        for way, found in ((((1, 1), (1, 1)), True), (((1, 1), (2, 1)), True), (((1, 1), (0, 1)), False), (((0, 1), (1, 1)), False), (((-1, 1), (0, 1)), False), (((0, 1), (0, 1)), False),
                           (((1, 1), 1), False), (((1, 1),), False), (((True, 1), (1, 1)), False), (((2, 2), (1, 1)), False)):
            self.judged(rows, (1, 0), ("endless", point, way), found)
        self.judged(rows, (1, 0), ("endless", ((1, 1), (0, 1)), ((1, 1), (1, 1))), False)
        self.judged((("=", (1, -1), 2),), (1, 0), ("endless", ((2, 1), (0, 1)), ((1, 1), (1, 1))), True)
        self.judged((("=", (1, -1), 2),), (1, 0), ("endless", ((2, 1), (0, 1)), ((1, 1), (2, 1))), False)

    def test_any_value(self):
        for thing in ANY_VALUES:
            for more in (thing, (thing,), ("none", thing), ("at", thing), ("at", thing, ((5, 2), (3, 2)), ((1, 2), (1, 2), (0, 1))), ("at", (5, 2), thing, ((1, 2), (1, 2), (0, 1))),
                         ("at", (5, 2), ((5, 2), (3, 2)), thing), ("endless", thing, thing), ("none", (thing, thing, thing)), (thing, (5, 2), (), ())):
                self.judged(self.ROWS, (1, 0), more, False)

    def test_one_item_otherwise(self):
        """Answers with one item exchanged, left out or added at any depth are judged as by the words of the document."""
        let_by = 0
        for seed in range(60):
            rows, goal = made_rows(random.Random(seed), many=random.Random(seed).randint(0, 5), size=3)
            for other in others(solved(rows, goal)):
                found = is_solved_by_words(rows, goal, other)
                self.judged(rows, goal, other, found)
                let_by += found
        self.assertGreater(let_by, 20)


if __name__ == "__main__":
    unittest.main()
