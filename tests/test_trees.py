import unittest

from firstletter.errors import InvalidPaper, NotUsable
from firstletter.runs import is_over, is_run, lets_run, missed_after, takings_after
from firstletter.trees import lets_tree, run_of_tree, tree_of
from tests.examples import (A, ALIKE, ALONE, B, C, Case, D, JUNK, LONG, MIXED, NEAR, NO_LETTERS, NO_MARKS, NO_NUMBERS,
                            ONES, RING, TREE)
from tests.oracle import SETTINGS, all_pairings, all_runs, all_stores, fault_of_tree


class TreesTest(Case):

    def test_examples(self):
        self.same([tree_of(NEAR, ONES, 2, LONG) == TREE, lets_tree(NEAR, ONES, 2, TREE),
                   run_of_tree(NEAR, ONES, 2, TREE) == LONG], [True, 2, True])
        self.fails(InvalidPaper('open', -1), lets_tree, NEAR, ONES, 2, ((B, A),))

    def test_trees_of_runs(self):
        for web, numbers, marks in SETTINGS:
            for run, (_, parents, waiting) in all_runs(web, numbers, marks, 60).items():
                tree = self.kept(tree_of, web, numbers, marks, run)
                self.same(tree, tuple(sorted(parents.items())))
                if not waiting:
                    self.same(self.kept(lets_tree, web, numbers, marks, tree), len(tree))
                    self.check_run(web, numbers, marks, tree, run)

    def check_run(self, web, numbers, marks, tree, run=None):
        """run_of_tree returns a run that is over, has this tree, and has the letters of this run, if there is one."""
        made = self.kept(run_of_tree, web, numbers, marks, tree)
        self.assertIs(is_run(web, numbers, marks, made), True)
        self.assertIs(is_over(web, numbers, marks, made), True)
        self.same(tree_of(web, numbers, marks, made), tree)
        if run is not None:
            self.assertEqual(sorted(made), sorted(run))
            self.assertEqual(len(made), len(run))

    def test_closed_trees_are_those_of_runs_that_are_over(self):
        for web, numbers, marks in SETTINGS:
            if sum(numbers) > 4:
                continue
            runs = all_runs(web, numbers, marks, 10 ** 6)
            trees = {tuple(sorted(parents.items())) for _, parents, waiting in runs.values() if not waiting}
            for pairs in all_pairings(web, numbers):
                fault = fault_of_tree(web, numbers, marks, pairs)
                self.assertEqual(fault is None, pairs in trees)
                if fault is None:
                    self.same(lets_tree(web, numbers, marks, pairs), len(pairs))
                    self.check_run(web, numbers, marks, pairs)
                else:
                    self.fails(InvalidPaper(*fault), lets_tree, web, numbers, marks, pairs)
                    self.fails(NotUsable('tree', -1), run_of_tree, web, numbers, marks, pairs)

    def test_by_name(self):
        more = {'marks': 2, 'numbers': ONES, 'web': NEAR}
        self.same([tree_of(made=LONG[:1], **more), lets_tree(thing=TREE, **more), run_of_tree(tree=TREE, **more)],
                  [((D, A),), 2, LONG])

    def test_no_tuple(self):
        for thing in (None, True, 0, '', 'ab', [], list(TREE), [TREE[0]]):
            self.fails(InvalidPaper('shape', -1), lets_tree, NEAR, ONES, 2, thing)
            self.fails(NotUsable('tree', -1), run_of_tree, NEAR, ONES, 2, thing)

    def test_no_pairs_of_stores(self):
        for wrong in NO_LETTERS:
            for k in range(3):
                self.rejects('store', k, TREE[:k] + (wrong,) + TREE[k:])
                self.rejects('store', k, TREE[:k] + (wrong,))

    def rejects(self, word, at, thing, setting=(NEAR, ONES, 2)):
        self.fails(InvalidPaper(word, at), lets_tree, *setting, thing)
        self.fails(NotUsable('tree', -1), run_of_tree, *setting, thing)

    def test_the_asking_store_first(self):
        self.rejects('store', 0, ((A, B),))
        self.rejects('store', 0, ((A, A), *TREE))
        self.rejects('store', 1, (TREE[0], (A, D), TREE[1]))
        self.rejects('store', 2, (*TREE, (A, B)))
        # Another store of its kind may be first.
        setting = (RING[0], 'd'), (1, 1, 1, 2), 2
        self.same(lets_tree(*setting, ((B, D), (C, B), (('d', 1), D))), 3)
        self.rejects('store', 2, ((B, D), (C, B), (D, ('d', 1)), (('d', 1), D)), setting)

    def test_first_stores_that_are_not_greater(self):
        self.rejects('twice', 1, (TREE[1], TREE[0]))
        self.rejects('twice', 1, (TREE[0], TREE[0], TREE[1]))
        self.rejects('twice', 1, ((B, A), (B, D), (D, A)))
        self.rejects('twice', 2, ((B, D), (D, A), (D, A)))
        self.rejects('twice', 2, ((B, D), (D, A), (C, B)))
        setting = NEAR, (1, 12, 1, 1), 2
        self.rejects('twice', 1, ((('b', 10), A), (('b', 9), A)), setting)

    def test_parents_that_do_not_lead_to_the_asking_store(self):
        self.rejects('parent', 0, ((B, B),))
        self.rejects('parent', 0, ((B, D),))
        self.rejects('parent', 0, ((B, D), (D, B)))
        self.rejects('parent', 1, ((B, A), (C, D)))
        self.rejects('parent', 2, ((B, A), (C, B), (D, D)))
        self.rejects('parent', 0, ((B, C), (C, B), (D, A)))
        self.rejects('parent', 0, ((B, C), (C, D), (D, B)))
        self.rejects('parent', 1, ((B, A), (C, D), (D, C)))
        self.rejects('parent', 0, ((B, C), (C, D), (D, D)))

    def test_parents_that_do_not_send(self):
        self.rejects('send', 0, ((B, C), (C, A), (D, A)), (NEAR, ONES, 9))
        self.rejects('send', 1, ((B, A), (C, A), (D, A)), (NEAR, ONES, 9))
        self.rejects('send', 2, ((B, A), (C, B), (D, C)), (NEAR, ONES, 9))
        self.rejects('send', 1, ((B, D), (C, B), (D, A)))
        self.same(lets_tree(NEAR, ONES, 3, ((B, D), (C, B), (D, A))), 3)
        self.rejects('send', 0, ((B, A), (D, A)), (NEAR, ONES, 0))
        self.rejects('send', 1, ((A, B), (C, A)), (MIXED, (1, 1, 1), 9))

    def test_marks_far_below_zero(self):
        web = ((('a', 3, False, ('b',)), ('b', 3, False, ('c',)), ('c', 1, False, ('b',))), 'a')
        self.rejects('send', 0, ((B, A), (C, B)), (web, (1, 1, 1), 0))
        self.rejects('send', 1, ((B, A), (C, B)), (web, (1, 1, 1), 3))
        self.rejects('send', 0, ((B, C), (C, A)), (web, (1, 1, 1), 3))
        self.same(lets_tree(web, (1, 1, 1), 6, ((B, A), (C, B))), 2)
        self.rejects('send', 1, ((B, A), (C, B)), (web, (1, 1, 1), 5))
        self.same(lets_tree(web, (1, 1, 1), 5, ((B, A),)), 1)

    def test_open(self):
        self.rejects('open', -1, ())
        self.rejects('open', -1, ((B, A),))
        self.rejects('open', -1, ((D, A),))
        self.rejects('open', 0, ((B, A), (D, A)))
        self.rejects('open', -1, ((B, A), (D, A)), (NEAR, (1, 2, 1, 1), 2))
        self.rejects('open', 0, ((B, A), (C, B), (D, A)), (NEAR, (1, 1, 2, 1), 2))
        self.same(lets_tree(NEAR, ONES, 1, ((B, A), (D, A))), 2)
        self.same(lets_tree(NEAR, ONES, 0, ()), 0)

    def test_open_behind_other_elements(self):
        web = ((('a', 1, False, ('b', 'd')), ('b', 1, True, ()), ('c', 1, False, ()), ('d', 1, False, ('c',))), 'a')
        self.rejects('open', 1, ((B, A), (D, A)), (web, ONES, 2))
        self.same(lets_tree(web, ONES, 2, ((B, A), (C, D), (D, A))), 3)
        self.same(lets_tree(web, ONES, 1, ((B, A), (D, A))), 2)

    def test_the_first_fault_counts(self):
        self.rejects('store', 1, ((B, C), None, (B, B)))
        self.rejects('store', 0, ((A, A), (A, A)))
        self.rejects('twice', 1, ((B, B), (B, B), None))
        self.rejects('twice', 1, ((D, D), (C, C)))
        self.rejects('store', 1, ((B, B), (A, B)))
        self.rejects('parent', 1, ((C, A), (D, D)))
        self.rejects('parent', 2, ((B, A), (C, A), (D, D)))
        self.rejects('send', 0, ((C, A), (D, C)))
        self.rejects('send', 1, ((B, A), (C, A)))
        self.rejects('open', -1, ((B, A), (C, B)))

    def test_any_value(self):
        for thing in JUNK:
            self.rejects(*(('store', 0) if isinstance(thing, tuple) else ('shape', -1)), thing)

    def test_numbers_then_marks_then_the_last_one(self):
        for function, right in ((tree_of, LONG), (lets_tree, TREE), (run_of_tree, TREE)):
            for numbers in NO_NUMBERS:
                self.fails(NotUsable('numbers', -1), function, NEAR, numbers, 2, right)
                self.fails(NotUsable('numbers', -1), function, NEAR, numbers, -1, None)
            for marks in NO_MARKS:
                self.fails(NotUsable('marks', -1), function, NEAR, ONES, marks, right)
                self.fails(NotUsable('marks', -1), function, NEAR, ONES, marks, None)
            self.fails(NotUsable('numbers', -1), function, NEAR, (1, 1, 1), 2, right)

    def test_what_is_no_run(self):
        for made in (None, [], list(LONG), LONG[1:], LONG + LONG[:1], (None,), TREE, *[(letter,) for letter in NO_LETTERS]):
            self.fails(NotUsable('made', -1), tree_of, NEAR, ONES, 2, made)
        for made in JUNK:
            self.fails(NotUsable('made', -1), tree_of, NEAR, ONES, 2, made)

    def test_a_tree_of_a_run_that_is_not_over(self):
        self.same([tree_of(NEAR, ONES, 2, LONG[:k]) for k in range(4)], [(), ((D, A),), TREE, TREE])
        self.rejects('open', -1, tree_of(NEAR, ONES, 2, LONG[:1]))

    def test_twelve_stores(self):
        stores = [('s', i) for i in range(12)]
        chain = tuple((stores[i + 1], stores[i]) for i in range(11))
        star = tuple((store, stores[0]) for store in stores[1:])
        back = tuple((stores[i], stores[i + 1] if i < 11 else stores[0]) for i in range(1, 12))
        for tree in (chain, star, back):
            self.same(lets_tree(ALIKE, (12,), 12, tree), 11)
            self.check_run(ALIKE, (12,), 12, tree)
            self.same(lets_run(ALIKE, (12,), 12, run_of_tree(ALIKE, (12,), 12, tree)), 132)
        self.same(lets_tree(ALIKE, (12,), 11, chain), 11)
        self.rejects('send', 10, chain, (ALIKE, (12,), 10))
        self.rejects('send', 0, back, (ALIKE, (12,), 10))


class ConsequencesTest(Case):

    def test_consequences(self):
        for web, numbers, marks in SETTINGS:
            asking = (web[1], 0)
            lengths = {}
            for run, (taken, _, waiting) in all_runs(web, numbers, marks, 60).items():
                if waiting:
                    continue
                tree = tree_of(web, numbers, marks, run)
                self.assertEqual(lengths.setdefault(tree, len(run)), len(run))
                firsts = [store for store, _ in tree]
                self.assertEqual(firsts, sorted(store for store in taken if store != asking))
                takings = dict(takings_after(web, numbers, marks, run))
                for store, parent in tree:
                    self.assertLess(takings[store], takings[parent])
                missed = missed_after(web, numbers, marks, run)
                self.assertEqual(sorted([*firsts, *missed, asking]), all_stores(web, numbers))

    def test_only_the_empty_tree(self):
        for setting in ((NEAR, ONES, 0), (MIXED, (1, 1, 1), 1), (ALONE, (3,), 9), (ALIKE, (1,), 9)):
            self.same(lets_tree(*setting, ()), 0)
            self.same(run_of_tree(*setting, ()), ())
            closed = [pairs for pairs in all_pairings(*setting[:2]) if fault_of_tree(*setting, pairs) is None]
            self.assertEqual(closed, [()])


if __name__ == '__main__':
    unittest.main()
