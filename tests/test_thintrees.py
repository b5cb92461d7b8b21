import unittest
from random import Random

from fourcords.errors import BadSlot, SizesDiffer
from fourcords.forms import Form
from fourcords.grades import grade_factor
from fourcords.judging import judge, rank
from fourcords.rowlists import RowList
from fourcords.thinning import thinned
from fourcords.thintrees import ThinTree, tree_factor
from fourcords.webs import Web
from reference import HUGE, number, random_rows

ONE = RowList(2, [((1, 0), 1), ((1, 1), 2)], bottom=3)
TWO = RowList(2, [((0, 1), 4)])


def levels_by_hand(lists, grade):
    """All levels of the tree over these lists, from the slots to the root."""
    levels = [list(lists)]
    while len(levels[-1]) > 1:
        below = levels[-1]
        levels.append([thinned(below[k] + below[k + 1], grade=grade) for k in range(0, len(below), 2)])
    return levels


def filled_tree(size, height, grade, lists):
    tree = ThinTree(size, height=height, grade=grade)
    for slot, rows in enumerate(lists):
        tree.put(slot, rows)
    return tree


def state(tree):
    """Everything that a tree tells."""
    places = [(level, place) for level in range(tree.height + 1) for place in range(2 ** (tree.height - level))]
    told = [(tree.at(level, place).size, tree.at(level, place).pairs, tree.at(level, place).bottom)
            for level, place in places]
    return tree.size, tree.height, tree.grade, tree.thinnings, tree.root.pairs, tree.root.bottom, told


class Levels(unittest.TestCase):
    def check(self, tree, lists):
        levels = levels_by_hand(lists, tree.grade)
        self.assertEqual(len(levels), tree.height + 1)
        for level, told in enumerate(levels):
            for place, rows in enumerate(told):
                self.assertTrue(tree.at(level, place) == rows, (level, place))
        for slot, rows in enumerate(lists):
            self.assertTrue(tree.held(slot) == rows)
        self.assertTrue(tree.root == levels[-1][0])

    def test_every_put_against_thinning_by_hand(self):
        random = Random(1)
        for size, height, grade, puts in [(1, 0, 2, 3), (2, 1, 2, 5), (2, 2, 2, 7), (1, 3, 3, 10), (1, 4, 2, 8), (0, 2, 2, 3),
                                          (1, 1, 10, 3)]:
            tree = ThinTree(size, height=height, grade=grade)
            lists = [RowList(size, [])] * 2 ** height
            self.check(tree, lists)
            for _ in range(puts):
                slot, rows = random.randrange(2 ** height), random_rows(random, size, random.randint(0, 5))
                self.assertIsNone(tree.put(slot, rows))
                lists = lists[:slot] + [rows] + lists[slot + 1:]
                self.check(tree, lists)

    def test_at_the_beginning(self):
        for size in (0, 3, 10):
            for height in range(5):
                tree = ThinTree(size, height=height)
                self.assertEqual((tree.size, tree.height, tree.grade, tree.thinnings), (size, height, 2, 0))
                self.check(tree, [RowList(size, [])] * 2 ** height)
                self.assertTrue(tree.root == RowList(size, []))
        self.assertEqual(ThinTree(2, height=1, grade=7).grade, 7)

    def test_height_0_holds_the_list_as_it_was_put_in(self):
        tree = ThinTree(2, height=0)
        tree.put(0, ONE)
        self.assertTrue(tree.root == tree.held(0) == tree.at(0, 0) == ONE)
        self.assertFalse(tree.root == thinned(ONE))
        tree.put(0, TWO)
        self.assertTrue(tree.root == TWO)
        many = RowList(2, [((1, at), 1) for at in range(60)])
        tree.put(0, many)
        self.assertTrue(tree.root == many)

    def test_short_and_empty_lists_are_thinned(self):
        tree = ThinTree(1, height=2)
        tree.put(3, RowList(1, [((1,), 1)]))
        self.assertEqual(tree.at(1, 1).pairs, (((1,), 2),))
        self.assertEqual(tree.root.pairs, thinned(RowList(1, [((1,), 2)])).pairs)
        self.assertEqual(tree.root.pairs, (((1,), 4),))
        self.assertTrue(tree.at(1, 0) == RowList(1, []))
        tree.put(3, RowList(1, []))
        self.assertTrue(tree.root == RowList(1, []))
        # A list with rows that are all zeros stays in its slot, and not above.
        tree.put(0, RowList(1, [((0,), 5)]))
        self.assertEqual((tree.held(0).pairs, tree.root.pairs), ((((0,), 5),), ()))

    def test_the_list_with_the_lesser_place_stands_first(self):
        tree = ThinTree(2, height=1)
        tree.put(1, TWO)
        tree.put(0, ONE)
        self.assertTrue(tree.root == thinned(ONE + TWO))
        self.assertFalse(tree.root == thinned(TWO + ONE))

    def test_another_list_in_a_slot(self):
        tree = filled_tree(2, 2, 2, [ONE, TWO, ONE, TWO])
        tree.put(2, TWO)
        self.check(tree, [ONE, TWO, TWO, TWO])
        tree.put(2, ONE)
        self.assertTrue(tree.root == filled_tree(2, 2, 2, [ONE, TWO, ONE, TWO]).root)
        tree.put(1, RowList(2, []))
        self.check(tree, [ONE, RowList(2, []), ONE, TWO])

    def test_trees_do_not_share_their_slots(self):
        one, two = ThinTree(2, height=1), ThinTree(2, height=1)
        one.put(0, ONE)
        self.assertEqual((two.thinnings, len(two.root), len(two.held(0))), (0, 0, 0))


class Faults(unittest.TestCase):
    def test_bad_slots(self):
        for height in range(5):
            tree = ThinTree(2, height=height)
            tree.put(0, ONE)
            tree.put(2 ** height - 1, TWO)
            before = state(tree)
            for slot in (-1, 2 ** height, 2 ** height + 1, -2 ** height, HUGE, -HUGE):
                # The size is wrong, too, in the second case.
                for rows in (ONE, RowList(3, []), RowList(1, [((1,), 1)])):
                    with self.assertRaises(BadSlot) as caught:
                        tree.put(slot, rows)
                    self.assertEqual(caught.exception.slot, slot)
                with self.assertRaises(BadSlot) as caught:
                    tree.held(slot)
                self.assertEqual(caught.exception.slot, slot)
            self.assertEqual(state(tree), before)

    def test_sizes_differ(self):
        for height in (0, 2):
            tree = ThinTree(2, height=height)
            tree.put(0, ONE)
            before = state(tree)
            for rows in (RowList(3, []), RowList(0, []), RowList(1, [((1,), 1)])):
                with self.assertRaises(SizesDiffer) as caught:
                    tree.put(2 ** height - 1, rows)
                self.assertEqual((caught.exception.one, caught.exception.two), (2, rows.size))
            self.assertEqual(state(tree), before)


class Roots(unittest.TestCase):
    """Points 78 and 79."""

    def test_the_order_makes_no_difference(self):
        random = Random(2)
        for size, height, grade in [(2, 2, 2), (1, 3, 3), (2, 1, 4)]:
            lists = [random_rows(random, size, random.randint(0, 4)) for _ in range(2 ** height)]
            first = filled_tree(size, height, grade, lists)
            for _ in range(3):
                tree = ThinTree(size, height=height, grade=grade)
                # Other lists stood in the slots for a while.
                tree.put(0, random_rows(random, size, 3))
                tree.put(2 ** height - 1, random_rows(random, size, 3))
                for slot in random.sample(range(2 ** height), 2 ** height):
                    tree.put(slot, lists[slot])
                self.assertTrue(tree.root == first.root)

    def test_between_the_sum_and_the_factor_times_it(self):
        random = Random(3)
        for size, height, grade in [(2, 0, 2), (2, 1, 2), (2, 2, 2), (3, 2, 2), (1, 3, 3), (1, 4, 2), (1, 2, 5)]:
            lists = [random_rows(random, size, random.randint(0, 5)) for _ in range(2 ** height)]
            tree = filled_tree(size, height, grade, lists)
            total = sum([rows.form for rows in lists], start=Form.zero(size))
            self.assertEqual(number(tree_factor(tree)), number(grade_factor(grade)) ** height)
            for gap in (tree.root.form - total, total.scaled(tree_factor(tree)) - tree.root.form):
                self.assertTrue(judge(gap).holds)
                self.assertEqual(rank(gap), rank(total) if height > 0 else 0)

    def test_factors(self):
        self.assertEqual([tree_factor(ThinTree(1, height=height)) for height in range(3)], [(1, 1), (29, 3), (841, 9)])
        self.assertEqual(tree_factor(ThinTree(0, height=4, grade=3)), (25 ** 4, 6 ** 4))
        self.assertEqual(tree_factor(ThinTree(5, height=1, grade=10)), (9911, 6561))

    def test_thinnings(self):
        for height in range(5):
            tree = ThinTree(1, height=height)
            self.assertEqual(tree.thinnings, 0)
            rows = RowList(1, [((1,), 1)])
            # The same list again, an equal one and an empty one count, too.
            for count, told in enumerate([rows, rows, RowList(1, [((1,), 2)], bottom=2), RowList(1, []), RowList(1, [])]):
                tree.put(0, told)
                self.assertEqual(tree.thinnings, (count + 1) * height)
            for slot, told in [(-1, rows), (2 ** height, rows), (0, RowList(2, []))]:
                with self.assertRaises((BadSlot, SizesDiffer)):
                    tree.put(slot, told)
                self.assertEqual(tree.thinnings, 5 * height)
            tree.put(2 ** height - 1, rows)
            self.assertEqual(tree.thinnings, 6 * height)

    def test_webs_in_slots(self):
        webs = [Web.ring(4), Web.complete(4), Web.grid(2, 2), Web(4, [])]
        tree = filled_tree(4, 2, 2, [web.rows for web in webs])
        web = Web.of_rows(tree.root)
        self.assertEqual(web.places, 4)
        total = webs[0].form + webs[1].form + webs[2].form
        self.assertTrue(judge(web.form - total).holds)
        self.assertTrue(judge(total.scaled(tree_factor(tree)) - web.form).holds)


if __name__ == "__main__":
    unittest.main()
