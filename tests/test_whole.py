"""The whole: point 3, by what the book itself does in trials."""

import unittest
from itertools import permutations, product

from freshcells.books import played
from freshcells.desk import Desk
from freshcells.errors import Unready
from freshcells.leavings import leavings, shown_by
from freshcells.looker import holds, paper_of
from freshcells.orders import stands
from freshcells.plans import fence_of, fewest, mends
from freshcells.texts import book_text, read_book
from freshcells.tops import is_fresh, reason, stale
from judge import is_right
from model import Model
from things import all_of, drawn_book, ready_book, told_of


def behind(book, emptied, row):
    """Tell the outcomes behind a plan, in the book's order, as its own runs tell them."""
    def do(told):
        if emptied:
            told.empty()
        for cell in row:
            told.run(cell)
        return [told.outcome(cell) for cell in told.order()]
    return book.trial(do)


class WholeTest(unittest.TestCase):

    def setUp(self):
        self.books = [drawn_book(seed, 24, 3) for seed in range(1000, 1120)]

    def test_fresh_and_the_reasons_of_all_others(self):
        for book in self.books:
            wanted = behind(book, True, book.order())
            for at, cell in enumerate(book.order()):
                fresh = book.outcome(cell) == wanted[at]
                self.assertIs(is_fresh(book, cell), fresh)
                self.assertIs(cell in stale(book), not fresh)
                self.assertIs(reason(book, cell) is None, fresh)
                if not fresh:
                    self.check_reason(book, cell, reason(book, cell))

    def check_reason(self, book, cell, told):
        """See that a reason tells what the book's own deeds show."""
        run = book.last(cell)
        if told[0] != "read":
            self.assertEqual(told, ("unrun",) if run is None else ("text", run))
            return
        word, name, then, now, last, setter = told
        self.assertEqual((word, last), ("read", run))
        self.assertIn((name, setter), book.sources(run))
        ahead = book.order()[:book.order().index(cell)]
        room = book.trial(lambda other: (other.empty(), [other.run(one) for one in ahead], other.room())[-1])
        self.assertEqual(now, room.get(name))
        self.assertNotEqual(now, then)

    def test_the_plan_mends_and_no_row_of_fewer_runs_does(self):
        for book in self.books:
            wanted = behind(book, True, book.order())
            emptied, row = fewest(book)
            self.assertEqual(behind(book, emptied, row), wanted)
            for many in range(len(row) + emptied):
                for other in product(book.order(), repeat=many):
                    self.assertNotEqual(behind(book, False, other), wanted)
                    self.assertFalse(mends(book, False, list(other)))
            for many in range(len(row)):
                for other in product(book.order(), repeat=many):
                    self.assertNotEqual(behind(book, True, other), wanted)
                    self.assertFalse(mends(book, True, list(other)))

    def test_leavings_are_shown_by_the_told_row_and_by_no_shorter_one(self):
        for book in self.books:
            for name, run in leavings(book):
                self.assertEqual(book.setter(name), run)
                self.assertIn(name, book.room())
                row = shown_by(book, name)
                for most in (1, 2, 3, 4):
                    self.assertEqual(shown_by(book, name, most=most), row if row and len(row) <= most else None)

    def test_undone_and_taken_up_again_all_is_the_same(self):
        for book in self.books:
            ahead = all_of(book)
            plan, fence = fewest(book), fence_of(book)
            many = len(book.deeds())
            for _ in range(many):
                book.undo()
            for _ in range(many):
                book.redo()
            self.assertEqual(all_of(book), ahead)
            self.assertEqual((fewest(book), fence_of(book)), (plan, fence))
            anew = played(book.deeds())
            self.assertEqual(all_of(anew)[0], ahead[0])
            self.assertEqual((fewest(anew), fence_of(anew)), (plan, fence))

    def test_an_order_is_told_just_where_one_leads_each_read_to_its_source(self):
        found = {}
        for book in self.books + [ready_book(seed, 4, ("a", "b", "c", "d")) for seed in range(200)]:
            try:
                word, told = stands(book)
            except Unready as refusal:
                self.assertEqual(refusal.cell, Model(book.deeds()).unready())
                continue
            rows = [list(row) for row in permutations(book.order()) if self.leads(book, row)]
            self.assertEqual(word, "order" if rows else "none")
            if rows:
                self.assertIn(told, rows)
            else:
                self.assertTrue(holds(book, ("falls",), told))
            found[word] = found.get(word, 0) + 1
        self.assertGreater(min(found.values()), 10, found)

    def leads(self, book, row):
        """Tell whether, each run once in this order from an empty room, each cell would have its sources, if each set
        what its last run did: in a book of cells that set just these names."""
        deeds, runs = book.deeds(), {}
        for at, deed in enumerate(deeds):
            if deed[0] == "run":
                ahead = played(deeds[:at])
                setters = {name: ahead.setter(name) for name in "abcd"}
                ahead.run(deed[1])
                runs[ahead.last(deed[1])] = [name for name in "abcd" if ahead.setter(name) != setters[name]]
        setter = {}
        for cell in row:
            if any(setter.get(name) != source for name, source in book.sources(book.last(cell))):
                return False
            setter.update({name: book.last(cell) for name in runs[book.last(cell)]})
        return True

    def test_a_claim_is_let_by_just_with_a_paper_that_shows_it(self):
        for book in self.books[:60]:
            model, plan = Model(book.deeds()), fewest(book)
            claims = [(word, cell) for word in ("fresh", "stale") for cell in book.order()]
            claims += [("mends", *plan), ("fewest", *plan), ("mends", True, book.order()), ("fewest", True, book.order())]
            claims += [("shown", name, row) for name in book.room() for row in [shown_by(book, name), book.order()] if row]
            claims += [("stands", book.order()), ("falls",)]
            papers = [paper_of(book, claim) for claim in claims]
            for claim, told in zip(claims, papers):
                for paper in papers:
                    self.assertIs(holds(book, claim, paper), is_right(model, claim, paper))
                self.assertIs(holds(book, claim, told), told is not None)
            for claim in claims[len(book):2 * len(book)]:
                self.assertEqual(paper_of(book, claim), reason(book, claim[1]))

    def test_the_text_read_back_is_the_book(self):
        for book in self.books:
            other = read_book(book_text(book))
            self.assertEqual(told_of(other), told_of(book))
            self.assertEqual((fewest(other), fence_of(other)), (fewest(book), fence_of(book)))
            self.assertEqual(other.deeds(), book.deeds())

    def test_the_same_through_a_desk(self):
        for book in self.books:
            desk = Desk()
            for deed in book.deeds():
                word, *rest = deed[0], *([deed[2], deed[1]] if deed[0] == "put" else deed[1:])
                desk.say(" ".join([word] + [str(thing).replace("\n", "; ") for thing in rest]))
            wanted = behind(book, True, book.order())
            others = [cell for at, cell in enumerate(book.order()) if book.outcome(cell) != wanted[at]]
            self.assertEqual(desk.say("stale"), " ".join(map(str, others)) or "none")
            for cell in book.order():
                self.assertEqual(desk.say(f"why {cell}") == "fresh", cell not in others)
            emptied, row = fewest(book)
            plan = desk.say("plan")
            self.assertEqual((plan.startswith("empty "), plan == "mended"), (emptied, row == []))
            told = [int(word) for word in plan.split() if word not in ("empty", "mended")]
            self.assertEqual((len(told), behind(book, emptied, told)), (len(row), wanted))
            self.assertEqual(told_of(desk.book), told_of(book))


if __name__ == "__main__":
    unittest.main()
