"""Plans, the fewest and their fences: points 15 and 16."""

import unittest

from freshcells.books import Book, played
from freshcells.errors import BookError, NoCell, TooMany
from freshcells.plans import fence_of, fewest, mends
from freshcells.tops import stale, top
from model import Model
from things import all_of, book_of, drawn_book, no_cells, no_texts


def run_all(book, *row):
    """Run cells in turn; tell the book."""
    for cell in row or book.order():
        book.run(cell)
    return book


def counted(wait, many):
    """Tell a book of so many cells, three or four, of which the third is not fresh: it shows what a run from the top
    would where the second one is run so many times ahead of it. (The first one can't be run again, but behind
    emptying: it would find the name `z`, that a gone cell has left.)"""
    book = run_all(book_of("a = 9\nshow z", "a = a + 1\nshow 1", "show a", "show 2"))
    book.run(book.put(f"a = {10 - wait}\nz = 1", place=0))
    book.strike(5)
    book.run(3)
    if wait == 0:
        book.edit(3, "show a + 1")
    if many == 3:
        book.strike(4)
    return book


def behind_plan(book, emptied, row):
    """Tell whether all cells are fresh behind a plan that is done in the book itself, for a trial."""
    def do(told):
        if emptied:
            told.empty()
        run_all(told, *row) if row else None
        return stale(told) == []
    return book.trial(do)


class PlanCase(unittest.TestCase):

    def check_plan(self, book, plan):
        """See that a plan is of the right kind, and mends."""
        self.assertEqual((type(plan), len(plan)), (tuple, 2))
        self.assertIn(repr(plan[0]), ("True", "False"))
        self.assertIs(type(plan[1]), list)
        self.assertIs(mends(book, *plan), True)
        self.assertTrue(behind_plan(book, *plan))

    def check_fewest(self, book, emptied, many):
        """See whether the fewest plan of a book empties the room, and how many runs it has."""
        plan = fewest(book)
        self.check_plan(book, plan)
        self.assertEqual((plan[0], len(plan[1])), (emptied, many))
        self.assertEqual(fewest(book, may_empty=True), plan)
        self.assertEqual(Model(book.deeds()).fewest_many(True), (emptied, many))
        return plan

    def check_kept(self, book, many):
        """See how many runs the fewest plan has where emptying isn't let; None where there is none."""
        plan = fewest(book, may_empty=False)
        if many is None:
            self.assertIsNone(plan)
        else:
            self.check_plan(book, plan)
            self.assertEqual((plan[0], len(plan[1])), (False, many))
        return plan

    def check_fence(self, book):
        """See that the fence of a book is as its points say; tell it."""
        fence, model, wanted = fence_of(book), Model(book.deeds()), tuple(outcome for _, outcome in top(book))
        emptied, row = fewest(book)
        self.assertEqual((type(fence), len(fence)), (tuple, 2))
        for layers, bare, many in zip(fence, (False, True), (len(row) + emptied, len(row))):
            self.assertEqual((type(layers), len(layers)), (list, many))
            for layer, states in zip(layers, model.layers(bare, many)):
                self.assertIs(type(layer), list)
                self.assertEqual(len(layer), len(set(layer)))
                self.assertEqual(set(layer), states)
                self.assertEqual([state for state in layer if state[1] == wanted], [])
        return fence


class MendsTest(PlanCase):

    def test_what_mends_and_what_does_not(self):
        book = book_of("a = 1", "show a")
        for emptied, row, wanted in ((False, [1, 2], True), (True, [1, 2], True), (False, [2, 1], False),
                                     (False, [1], False), (False, [2], False), (False, [1, 2, 2, 1], True),
                                     (False, [2, 1, 2], True), (True, [2, 1], False), (False, [], False)):
            self.assertIs(mends(book, emptied, row), wanted, row)
            self.assertIs(behind_plan(book, emptied, row), wanted, row)

    def test_the_empty_row(self):
        book = book_of("a = 1", "show a")
        self.assertIs(mends(book, False, []), False)
        run_all(book)
        self.assertIs(mends(book, False, []), True)
        self.assertIs(mends(book, True, []), True)
        self.assertIs(mends(Book(), False, []), True)
        self.assertIs(mends(Book(), True, []), True)

    def test_a_cell_again_and_again(self):
        for wait in range(4):
            book = counted(wait, 4)
            for many in range(6):
                self.assertIs(mends(book, False, [2] * many + [3]), many == wait)
                self.assertIs(mends(book, False, [3] * many + [2] * wait + [3, 4, 3]), True)
                self.assertIs(mends(book, True, [1] + [2] * many + [3]), many == 1)

    def test_runs_in_turn_change_the_room(self):
        book = book_of("show a", "if 1: a = 4\ndrop a", "show 2")
        self.assertTrue(mends(book, False, [2, 1, 3]))
        book.edit(2, "a = 4")
        self.assertFalse(mends(book, False, [2, 1, 3]))
        self.assertTrue(mends(book, False, [1, 2, 3]))
        book.run(2)
        self.assertFalse(mends(book, False, [1, 2, 3]))
        self.assertTrue(mends(book, True, [1, 2, 3]))
        self.assertTrue(mends(book, True, [1, 3, 3, 2, 2]))

    def test_emptied(self):
        book = run_all(book_of("show a", "a = 1"), 2)
        self.assertFalse(mends(book, False, [1]))
        self.assertTrue(mends(book, True, [1]))

    def test_the_outcomes_of_those_that_are_not_run_count(self):
        book = run_all(book_of("a = 1\nshow a", "show a"))
        book.edit(1, "a = 2\nshow a")
        self.assertFalse(mends(book, False, [1]))
        self.assertFalse(mends(book, False, [2]))
        self.assertTrue(mends(book, False, [1, 2]))

    def test_by_the_texts_that_stand(self):
        book = run_all(book_of("a = 1\nshow a"))
        book.edit(1, "a = 2\nshow a")
        self.assertTrue(mends(book, False, [1]))

    def test_no_cell(self):
        book = run_all(book_of("a = 1", "show a", "show 2"))
        book.strike(3)
        for each in (book, Book()):
            for thing in no_texts() + ["", "1", (), (1,), (1, 2), {1: 2}, 1, 2]:
                if thing != []:
                    self.check_no_cell(each, thing)
            for thing in no_cells(each):
                for row in ([thing], [thing] + each.order(), each.order() + [thing]):
                    self.check_no_cell(each, row)
        self.check_no_cell(book, [[1]])
        self.check_no_cell(book, [1, 2, 1, True])

    def check_no_cell(self, book, row):
        """See that a row is refused."""
        for emptied in (False, True):
            with self.assertRaises(NoCell) as caught:
                mends(book, emptied, row)
            self.assertIs(type(caught.exception), NoCell)
            self.assertIsInstance(caught.exception, BookError)

    def test_the_row_stays_and_so_does_the_book(self):
        book = run_all(book_of("a = 1", "show a"), 2)
        book.undo()
        ahead, row = all_of(book), [1, 2, 1]
        mends(book, True, row)
        mends(book, False, row)
        self.assertEqual((row, all_of(book)), ([1, 2, 1], ahead))

    def test_of_a_book_of_twelve(self):
        book = book_of("a = 1", *["a = a + 1\nshow a"] * 11)
        self.assertTrue(mends(book, False, book.order()))
        self.assertFalse(mends(book, False, book.order()[:-1]))
        self.assertTrue(mends(book, True, [3, 3, 12] + book.order()))

    def test_drawn_books(self):
        found = {True: 0, False: 0}
        for seed in range(150):
            book = drawn_book(seed, 20, 4)
            order = book.order()
            for row in ([], order, order[::-1], order[1:], order[:2] + order, order * 2, order[1:] + order[:1]):
                for emptied in (False, True):
                    truth = mends(book, emptied, row)
                    self.assertEqual(truth, behind_plan(book, emptied, row))
                    found[truth] += 1
        self.assertGreater(min(found.values()), 100)


class FewestTest(PlanCase):

    def test_a_bare_book(self):
        self.assertEqual((fewest(Book()), fewest(Book(), may_empty=False)), ((False, []), (False, [])))
        self.assertEqual(fence_of(Book()), ([], []))

    def test_nothing_to_mend(self):
        book = run_all(book_of("a = 1", "show a"))
        self.assertEqual((fewest(book), fewest(book, may_empty=False)), ((False, []), (False, [])))
        self.assertEqual(fence_of(book), ([], []))
        book.empty()
        self.assertEqual(fewest(book), (False, []))

    def test_never_run(self):
        for many in range(1, 5):
            book = book_of(*["a = 1", "b = a", "c = b", "show c"][:many])
            self.assertEqual(self.check_fewest(book, False, many), (False, book.order()))
            self.check_kept(book, many)
            self.check_fence(book)

    def test_one_run(self):
        book = run_all(book_of("a = 1", "show a", "show 3"))
        book.edit(3, "show 4")
        self.assertEqual(self.check_fewest(book, False, 1), (False, [3]))
        first, second = self.check_fence(book)
        state = ((("a", 1),), (((), None), ((1,), None), ((3,), None)))
        self.assertEqual((first, second), ([[state]], [[((), state[1])]]))

    def test_two_runs(self):
        book = run_all(book_of("a = 1", "show a", "show a + 1"), 2, 3, 1)
        self.assertEqual(sorted(self.check_fewest(book, False, 2)[1]), [2, 3])
        self.check_kept(book, 2)
        self.check_fence(book)

    def test_a_fresh_cell_is_run_for_what_it_sets(self):
        book = run_all(book_of("a = 1", "show a", "a = 2"), 2, 1, 3)
        self.assertEqual(stale(book), [2])
        self.assertEqual(self.check_fewest(book, False, 2), (False, [1, 2]))
        self.check_fence(book)

    def test_an_old_outcome_that_is_right_stays(self):
        book = run_all(book_of("a = 1", "show a"))
        book.edit(1, "a = 2")
        book.run(1)
        book.edit(1, "a = 1")
        self.assertEqual(self.check_fewest(book, False, 0), (False, []))

    def test_where_only_emptying_helps(self):
        book = run_all(book_of("show a", "a = 1"), 2, 1)
        self.assertEqual(stale(book), [1])
        self.assertEqual(self.check_fewest(book, True, 1), (True, [1]))
        self.check_kept(book, None)
        first, second = self.check_fence(book)
        self.assertEqual((len(first), len(second)), (2, 1))
        book.strike(2)
        self.assertEqual(self.check_fewest(book, True, 1), (True, [1]))
        self.check_kept(book, None)

    def test_as_few_with_and_without_emptying(self):
        book = counted(2, 3)
        self.assertTrue(mends(book, True, [1, 2, 3]))
        self.assertEqual(self.check_fewest(book, False, 3), (False, [2, 2, 3]))
        self.check_fence(book)
        book = book_of("a = 1", "show a")
        self.assertTrue(mends(book, True, [1, 2]))
        self.assertEqual(self.check_fewest(book, False, 2), (False, [1, 2]))
        self.check_fence(book)

    def test_emptying_that_saves_runs(self):
        book = counted(3, 4)
        self.assertEqual(self.check_kept(book, 4), (False, [2, 2, 2, 3]))
        self.assertEqual(self.check_fewest(book, True, 3), (True, [1, 2, 3]))
        self.assertEqual([len(layers) for layers in self.check_fence(book)], [4, 3])

    def test_a_cell_again_and_again(self):
        for wait in range(3):
            for many in (3, 4):
                book = counted(wait, many)
                self.assertEqual(stale(book), [3])
                self.assertEqual(self.check_fewest(book, False, wait + 1), (False, [2] * wait + [3]))
                self.check_fence(book)

    def test_without_emptying_as_many_runs_as_cells_and_no_more(self):
        for many in (3, 4):
            for wait in range(6):
                book = counted(wait, many)
                self.assertTrue(mends(book, False, [2] * wait + [3]))
                self.check_kept(book, wait + 1 if wait < many else None)
                self.check_fewest(book, wait > 2, min(wait + 1, 3))

    def test_too_many(self):
        book = book_of(*["show 1"] * 4)
        self.check_fewest(book, False, 4)
        self.check_kept(book, 4)
        self.assertEqual([len(layers) for layers in fence_of(book)], [4, 4])
        book.put("show 1")
        for ask in (lambda: fewest(book), lambda: fewest(book, may_empty=False), lambda: fewest(book, may_empty=True),
                    lambda: fence_of(book)):
            with self.assertRaises(TooMany) as caught:
                ask()
            self.assertIs(type(caught.exception), TooMany)
        book.strike(1)
        self.check_fewest(book, False, 4)

    def test_great_books_end_soon(self):
        texts = [f"if a * b // 3 + c * {many} - a * 2: a = a * {many + 1} // 3 + b - c + a\n"
                 f"b = b * 3 - a // 2 + {many} * c - b\nc = c + a - b * 2 + a // 7 + 3\n"
                 f"show a // 3 + b * 2 + c + {many}" for many in range(1, 5)]
        book = book_of(*texts)
        book.run(book.put("a = 1\nb = 2\nc = 3", place=0))
        book.strike(5)
        self.check_plan(book, fewest(book))
        self.check_kept(book, None)
        self.assertEqual([len(layer) for layer in self.check_fence(book)[0]], [1, 4, 16, 64, 256])

    def test_may_empty_is_handed_in_by_its_name(self):
        with self.assertRaises(TypeError):
            fewest(Book(), False)

    def test_what_is_told_is_the_askers_own_and_nothing_is_changed(self):
        for seed in range(25):
            book = drawn_book(seed, 25, 4)
            ahead = all_of(book)
            plan, kept, fence = repr(fewest(book)), repr(fewest(book, may_empty=False)), repr(fence_of(book))
            fewest(book)[1].append(7)
            for layers in fence_of(book):
                for layer in layers:
                    layer.clear()
                layers.append([])
            self.assertEqual(repr(fewest(book)), plan)
            self.assertEqual(repr(fewest(book, may_empty=False)), kept)
            self.assertEqual(repr(fence_of(book)), fence)
            self.assertEqual(all_of(book), ahead)
            self.assertEqual(repr(fence_of(played(book.deeds()))), fence)

    def test_drawn_books_against_the_model(self):
        found = {}
        for seed in range(300):
            book = drawn_book(seed, 20, 3)
            model = Model(book.deeds())
            wanted = model.fewest_many(True)
            self.check_fewest(book, *wanted)
            found[wanted] = found.get(wanted, 0) + 1
            kept = model.fewest_many(False)
            self.check_kept(book, None if kept is None else kept[1])
            self.check_fence(book)
        for wanted in ((False, 0), (False, 1), (False, 2), (False, 3), (True, 1), (True, 2)):
            self.assertGreater(found.get(wanted, 0), 2, found)

    def test_drawn_books_of_four_cells(self):
        books = [book for book in [drawn_book(seed, 25, 4) for seed in range(120)] if len(book) == 4]
        self.assertGreater(len(books), 25)
        for book in books:
            self.check_fewest(book, *Model(book.deeds()).fewest_many(True))
            self.check_fence(book)


if __name__ == "__main__":
    unittest.main()
