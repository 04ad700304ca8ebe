"""The looker: point 21."""

import unittest
from itertools import permutations, product

from freshcells.books import Book
from freshcells.looker import holds, paper_of
from freshcells.orders import stands
from freshcells.plans import fence_of, fewest
from freshcells.tops import reason
from judge import is_right, is_so
from model import Model
from things import all_of, book_of, drawn_book, no_cells, no_texts, ready_book, run_all

WORDS = ("fresh", "stale", "mends", "fewest", "shown", "stands", "falls")


class Odd:
    """What can't be compared, hashed, measured, gone through or tested."""

    __hash__ = None

    def no(self, *_):
        raise RuntimeError("this can't be done")

    __eq__ = __ne__ = __lt__ = __gt__ = __le__ = __ge__ = __bool__ = __len__ = __iter__ = __getitem__ = __contains__ = no


def others(thing):
    """Tell things that stand for another one, none of them the same in kind and worth."""
    told = [None, True, False, 0, 1, 7, -1, 10 ** 39, "", "a", "no", (), [], {}, (None,), [None], {1: 2}, (thing,), [thing],
            Odd(), 1.0]
    if type(thing) is int:
        told += [thing + 1, thing - 1, -thing, bool(thing), float(thing), str(thing)]
    if type(thing) is bool:
        told += [int(thing), not thing, str(thing)]
    if type(thing) is str:
        told += [thing + "a", thing + " ", thing[:-1], thing.upper(), list(thing), tuple(thing)]
    if type(thing) in (tuple, list):
        told += [list(thing), tuple(thing), dict(enumerate(thing)), str(thing)]
        told = [other for other in told if type(other) is not type(thing) or len(other) != len(thing)]
    return told


def variants(thing):
    """Tell a thing with one thing otherwise, at any place of it."""
    told = others(thing)
    if type(thing) in (tuple, list):
        kind = type(thing)
        for at, part in enumerate(thing):
            ahead, behind = list(thing[:at]), list(thing[at + 1:])
            told += [kind(ahead + [other] + behind) for other in variants(part)]
            told += [kind(ahead + behind), kind(ahead + [part, part] + behind), kind(ahead + [Odd(), part] + behind)]
        told += [kind([*thing, Odd()]), kind([*thing, None]), kind(reversed(thing))]
    return told


def either_book():
    """Tell a book of three cells in which each choice ends in a ring."""
    return run_all(book_of("n = 1\nshow x", "y = n", "x = 1\nn = 2\nshow y"), 1, 2, 0, 3)


def claims_on(book):
    """Tell claims on a book, those that are so and many that are not."""
    order, told = book.order(), [("falls",)]
    for cell in order + [0, 9]:
        told += [("fresh", cell), ("stale", cell)]
    rows = [[], order, order[::-1], order[1:], order[:1], order * 2, fewest(book)[1], [9]]
    rows += [[one] for one in order] + [[one, two] for one in order for two in order]
    told += [(word, emptied, row) for word in ("mends", "fewest") for emptied in (False, True) for row in rows]
    told += [("shown", name, row) for name in [*book.room(), "zz"] for row in rows]
    told += [("stands", list(row)) for row in permutations(order)] + [("stands", row) for row in rows]
    return told


class LookerCase(unittest.TestCase):

    def check(self, book, claim, paper=None):
        """See that a claim is so: that its paper is told, and let by, and so is another paper that is handed in."""
        ahead, model, told = all_of(book), Model(book.deeds()), paper_of(book, claim)
        self.assertTrue(is_right(model, claim, told), claim)
        self.assertIs(holds(book, claim, told), True, claim)
        if paper is not None:
            self.assertTrue(is_right(model, claim, paper), claim)
            self.assertIs(holds(book, claim, paper), True, claim)
        self.assertEqual(all_of(book), ahead)
        return told

    def check_not(self, book, claim, *papers):
        """See that a claim isn't so: no paper is told, none let by."""
        ahead = all_of(book)
        self.assertIsNone(paper_of(book, claim), claim)
        for paper in (*papers, (), None, [], ("unrun",), ([], []), ("gone", 1, "a"), Odd(), claim):
            self.assertIs(holds(book, claim, paper), False, claim)
        self.assertEqual(all_of(book), ahead)

    def check_variants(self, book, claim, paper):
        """See that a claim and its paper are let by, and with one thing otherwise just where they are right, too."""
        model = Model(book.deeds())
        self.assertIs(holds(book, claim, paper), True, claim)
        for other in variants(paper):
            self.assertIs(holds(book, claim, other), is_right(model, claim, other))
        for other in variants(claim):
            told = paper_of(book, other)
            self.assertIs(holds(book, other, paper), is_right(model, other, paper))
            self.assertIs(told is not None, is_so(model, other))
            if told is not None:
                self.assertTrue(is_right(model, other, told))


class FreshTest(LookerCase):

    def test_fresh_and_stale(self):
        book = run_all(book_of("a = 1", "show a", "show b", "show 4", "show 5"), 1, 2, 3, 4)
        book.edit(1, "a = 2\nshow 1")
        book.edit(4, "show 3 + 1")
        book.strike(5)
        self.assertEqual([self.check(book, ("fresh", cell)) for cell in (3, 4)], [(), ()])
        self.assertEqual(self.check(book, ("stale", 1)), ("text", 1))
        self.assertEqual(self.check(book, ("stale", 2)), ("read", "a", 1, 2, 2, 1))
        for cell in (1, 2, 5, 0, -1, 6, "1", None):
            self.check_not(book, ("fresh", cell))
        for cell in (3, 4, 5, 0, -1, 6, "1", None):
            self.check_not(book, ("stale", cell))

    def test_each_kind_of_reason_is_its_own_paper_alone(self):
        book = run_all(book_of("a = 1", "show a", "show b"), 1, 2, 3)
        book.edit(1, "a = 2")
        book.put("show 4")
        book.put("b = 1", place=0)
        book.strike(1)
        book.put("a = 7", place=0)
        papers = {cell: reason(book, cell) for cell in book.order()}
        self.assertEqual(papers, {6: ("unrun",), 5: ("unrun",), 2: ("read", "a", 1, 7, 2, 1), 4: ("unrun",),
                                  3: ("read", "b", None, 1, 3, None)})
        for cell in papers:
            self.check(book, ("stale", cell))
            for other in [(), ("text", 1), ("text", 2), ("unrun", 1), ["unrun"], *papers.values()]:
                self.assertIs(holds(book, ("stale", cell), other), other == papers[cell])

    def test_one_thing_otherwise(self):
        book = run_all(book_of("a = 1", "show a", "show b", "show 4"), 1, 2, 3)
        book.edit(1, "a = 2")
        book.put("b = 1", place=0)
        book.edit(1, "b = 1\nshow 1")
        for cell in book.order():
            self.check_variants(book, ("stale", cell), reason(book, cell))
        run_all(book, 0, *book.order())
        for cell in book.order():
            self.check_variants(book, ("fresh", cell), ())


class PlansTest(LookerCase):

    def test_mends(self):
        book = run_all(book_of("a = 1", "show a"), 1)
        for emptied, row in ((False, [2]), (False, [1, 2]), (True, [1, 2]), (False, [2, 2, 1, 2]), (True, [1, 1, 2])):
            self.assertEqual(self.check(book, ("mends", emptied, row)), ())
        for emptied, row in ((False, []), (True, [2]), (False, [1]), (True, [2, 1]), (False, [2, 3]), (False, [True, 2]),
                             (False, (2,)), (False, None), (0, [2]), (None, [2]), (False, [2, [1]])):
            self.check_not(book, ("mends", emptied, row))

    def test_a_long_row_mends(self):
        book = book_of("a = 1", "show a")
        self.check(book, ("mends", False, [1, 2] * 900))
        self.check_not(book, ("mends", False, [2] * 900))

    def test_fewest(self):
        book = run_all(book_of("a = 1", "show a", "show a + 1"), 2, 3, 1)
        fence = self.check(book, ("fewest", False, [2, 3]))
        self.assertEqual(fence, fence_of(book))
        self.check(book, ("fewest", False, [3, 2]), fence)
        for emptied, row in ((True, [2, 3]), (False, [2]), (False, [1, 2, 3]), (True, [1, 2, 3]), (False, [2, 3, 3]),
                             (False, [2, 2]), (False, []), (False, [2, 9]), (False, (2, 3))):
            self.check_not(book, ("fewest", emptied, row), fence)
        book = run_all(book_of("show a", "a = 1"), 2, 1)
        self.check(book, ("fewest", True, [1]))
        self.check_not(book, ("fewest", False, [1]), fence_of(book))
        self.check(run_all(book, 0, 1), ("fewest", False, []), ([], []))
        self.check_not(book, ("fewest", True, []), ([], []))

    def test_of_as_few_runs_one_that_does_not_empty(self):
        book = book_of("show 1")
        self.check(book, ("fewest", False, [1]))
        self.check_not(book, ("fewest", True, [1]), fence_of(book))
        self.assertEqual(self.check(book, ("mends", True, [1])), ())

    def test_the_states_of_a_layer_in_any_order(self):
        book = run_all(book_of("a = 1", "b = a\nshow b", "show 3"))
        first, second = fence_of(book)
        claim = ("fewest", False, [1, 2, 3])
        for layer in permutations(first[1]):
            for other in permutations(second[1]):
                self.check(book, claim, ([first[0], list(layer), first[2]], [second[0], list(other), second[2][::-1]]))
        for wrong in ([first[0], first[2], first[1]], [first[0], first[1][1:] + first[1][1:2], first[2]],
                      [first[0], first[1] + first[1][:1], first[2]], [first[0], first[1][1:], first[2]],
                      [first[0], first[1] + first[0], first[2]], first[:2], first + [[]], first + [first[2]], first[1:],
                      [first[0], tuple(first[1]), first[2]], tuple(first), [], None, [first], first[::-1]):
            self.assertIs(holds(book, claim, (wrong, second)), False)
            self.assertIs(holds(book, claim, (second, wrong)), False)
        self.assertIs(holds(book, claim, [first, second]), False)
        self.assertIs(holds(book, claim, (first, second, second)), False)
        self.assertIs(holds(book, claim, (first,)), False)

    def test_one_thing_otherwise(self):
        book = run_all(book_of("a = 1", "show a\nshow b"))
        self.check_variants(book, ("mends", False, [1, 2]), ())
        self.check_variants(book, ("fewest", False, [1, 2]), fence_of(book))
        book = run_all(book_of("show a", "a = 1"), 2, 1)
        self.check_variants(book, ("mends", True, [1]), ())
        self.check_variants(book, ("fewest", True, [1]), fence_of(book))
        self.check_variants(run_all(book, 0, 1), ("fewest", False, []), ([], []))

    def test_great_fences(self):
        for seed in range(40):
            book = drawn_book(seed, 25, 4)
            emptied, row = fewest(book)
            claim = ("fewest", emptied, row)
            fence = self.check(book, claim)
            backward = tuple([layer[::-1] for layer in layers] for layers in fence)
            self.check(book, claim, backward)


class ShownTest(LookerCase):

    def counting_book(self, wait):
        """Tell a book where its second cell shows `a` behind so many runs of the first one."""
        book = run_all(book_of("a = 7\nb = 0"), 1)
        book.strike(1)
        book.put("b = b + 1")
        book.put(f"if b // {wait}: show a" if wait else "show a")
        return book

    def test_one_to_four_runs(self):
        for wait in range(4):
            book = self.counting_book(wait)
            for many in range(6):
                claim = ("shown", "a", [2] * many + [3])
                self.check(book, claim) if wait <= many <= 3 else self.check_not(book, claim)

    def test_not_the_shortest(self):
        book = self.counting_book(0)
        for row in ([3], [2, 3], [3, 3], [3, 2, 3], [2, 2, 2, 3], [3, 3, 3, 3]):
            self.assertEqual(self.check(book, ("shown", "a", row)), ())
        for row in ([], [2], [3, 2], [2, 2, 2, 2, 3], [3] * 5, [1, 3], [3, 4], [True, 3], (3,), None, 3, [[3]], ["3"]):
            self.check_not(book, ("shown", "a", row))

    def test_no_name_of_the_room(self):
        book = self.counting_book(0)
        for name in ("c", "", "A", None, 1, ("a",), ["a"], "a" * 2000, Odd()):
            for row in ([3], [2], [9], []):
                self.check_not(book, ("shown", name, row))

    def test_a_name_that_is_no_leaving(self):
        book = run_all(book_of("a = 1", "show a"), 1)
        self.check(book, ("shown", "a", [2]))
        self.check_not(book, ("shown", "a", [1]))
        self.check_not(book, ("shown", "a", [1, 2]))

    def test_one_thing_otherwise(self):
        self.check_variants(self.counting_book(1), ("shown", "a", [2, 3]), ())
        self.check_variants(self.counting_book(3), ("shown", "a", [2, 2, 2, 3]), ())


class OrdersTest(LookerCase):

    def test_stands(self):
        book = run_all(book_of("a = 1", "show a", "a = 2", "show a"), 3, 4, 1, 2)
        for row in permutations(book.order()):
            claim = ("stands", list(row))
            self.check(book, claim) if row in ((1, 2, 3, 4), (3, 4, 1, 2)) else self.check_not(book, claim)
        for row in ([], [1, 2, 3], [1, 2, 3, 4, 4], [1, 2, 3, 4, 5], [1, 1, 2, 3], (1, 2, 3, 4), None, "1234", [True, 2, 3, 4],
                    [1.0, 2, 3, 4], [1, 2, 3, "4"], [1, 2, 3, None], [1, 2, 3, [4]], [1, 2, 3, Odd()], {1: 2}):
            self.check_not(book, ("stands", row))
        self.check_not(book, ("falls",))
        self.check(Book(), ("stands", []))
        self.check_not(Book(), ("falls",))

    def test_falls(self):
        self.check(run_all(book_of("a = 1", "show a"), 1, 2, 1), ("falls",), ("gone", 2, "a"))
        book = run_all(book_of("a = 1\nshow b", "b = 1\nshow a"), 1, 0, 2)
        self.check(book, ("falls",), ("ring", [(1, 2, "b"), (2, 1, "a")]))
        self.check(book, ("falls",), ("ring", [(2, 1, "a"), (1, 2, "b")]))
        self.check(book, ("falls",), ("ring", [(2, 1, "a"), (1, 2, "b")] * 20))
        for ring in ([], [(1, 2, "b")], [(1, 2, "b"), (1, 2, "b")], [(1, 2, "a"), (2, 1, "b")], [(1, 1, "a")],
                     [(1, 2, "b"), (2, 1, "a"), (1, 2, "b")], ((1, 2, "b"), (2, 1, "a")), [[1, 2, "b"], [2, 1, "a"]],
                     [(1, 2), (2, 1)], [(1, 2, "b", 0), (2, 1, "a", 0)], None, [Odd()], [None, None], ["ab", "ba"]):
            self.assertIs(holds(book, ("falls",), ("ring", ring)), False, ring)
        for row in ([1, 2], [2, 1]):
            self.check_not(book, ("stands", row), stands(book)[1])

    def test_trees_of_choices(self):
        book, choice = either_book(), (3, 1, 2, "n")
        one, other = ("ring", [(1, 3, "x"), (3, 1, "n")]), ("ring", [(3, 2, "y"), (2, 3, "n")])
        tree = ("either", choice, one, other)
        self.check(book, ("falls",), tree)
        self.check(book, ("falls",), ("either", choice, tree, other))
        self.check(book, ("falls",), ("either", choice, ("either", choice, one, one), tree))
        self.check(book, ("falls",), ("either", choice, one, ("either", choice, one, ("either", choice, tree, other))))
        for wrong in (one, other, ("either", choice, other, one), ("either", choice, one, one), ("either", choice, other, other),
                      ("either", (3, 2, 1, "n"), one, other), ("either", (3, 1, 2, "x"), one, other), ("either", choice, one),
                      ("either", choice, one, other, other), ("either", choice), ("either", list(choice), one, other),
                      ("either", choice, ("gone", 2, "n"), other), ("either", choice, one, ("gone", 3, "y")),
                      ("either", choice, one, None), ("either", choice, one, ()), ("either", choice, one, ("order", [1, 2, 3])),
                      ("either", choice, ("either", choice, one, other), one), ("none", tree), (tree,), [tree], (),
                      ["either", choice, one, other], ("Either", choice, one, other), ("or", choice, one, other)):
            self.assertIs(holds(book, ("falls",), wrong), False, wrong)

    def test_gone_below_a_choice(self):
        book = either_book()
        for text in ("z = 1", "show z"):
            book.run(book.put(text))
        book.run(4)
        choice, gone = (3, 1, 2, "n"), ("gone", 5, "z")
        self.check(book, ("falls",), gone)
        self.check(book, ("falls",), ("either", choice, gone, gone))
        self.check(book, ("falls",), ("either", choice, ("ring", [(1, 3, "x"), (3, 1, "n")]), gone))
        for wrong in (("gone", 5, "n"), ("gone", 4, "z"), ("gone", 5), ("gone", 5, "z", 4), ("gone", (5, "z")), ("gone",),
                      ("gone", True, "z"), ("gone", 5.0, "z"), ["gone", 5, "z"], ("gone", 5, ["z"]), ("Gone", 5, "z")):
            self.assertIs(holds(book, ("falls",), wrong), False, wrong)

    def test_deep_trees(self):
        book, choice = either_book(), (3, 1, 2, "n")
        one, other = ("ring", [(1, 3, "x"), (3, 1, "n")]), ("ring", [(3, 2, "y"), (2, 3, "n")])
        right, wrong = other, one
        for _ in range(600):
            right, wrong = ("either", choice, one, right), ("either", choice, one, wrong)
        self.assertIs(holds(book, ("falls",), right), True)
        self.assertIs(holds(book, ("falls",), wrong), False)
        self.assertIs(holds(book, ("falls",), ("either", choice, right, wrong)), False)

    def test_one_thing_otherwise(self):
        book = run_all(book_of("a = 1", "show a"), 1, 2)
        self.check_variants(book, ("stands", [1, 2]), ())
        book = run_all(book_of("a = 1", "show a"), 1, 2, 1)
        self.check_variants(book, ("falls",), ("gone", 2, "a"))
        book = run_all(book_of("a = 1\nshow b", "b = 1\nshow a"), 1, 0, 2)
        self.check_variants(book, ("falls",), stands(book)[1])
        self.check_variants(either_book(), ("falls",), stands(either_book())[1])

    def test_a_book_that_is_not_ready(self):
        for ready, claims in ((run_all(book_of("a = 1", "show a"), 1, 2), [("stands", [1, 2])]),
                              (run_all(book_of("a = 1", "show a"), 1, 2, 1), [("falls",)]), (either_book(), [("falls",)])):
            for claim in claims:
                paper = self.check(ready, claim)
                ready.edit(2, "show 9")
                self.check_not(ready, claim, paper)
                ready.edit(2, Model(ready.deeds()[:-1]).runs[1][1])
                self.check(ready, claim, paper)
                new = ready.put("show 5")
                for row in (ready.order(), ready.order()[:-1]):
                    self.check_not(ready, ("stands", row))
                self.check_not(ready, ("falls",), paper)
                ready.run(new)
                self.check(ready, ("stands", [1, 2, new]) if claim != ("falls",) else claim)


class AnyTest(LookerCase):

    def test_any_things(self):
        books = [Book(), either_book(), run_all(book_of("a = 1", "show a"), 1), drawn_book(3, 30, 4)]
        for book in books:
            ahead = all_of(book)
            things = no_texts() + [Odd(), "fresh", "falls", ("falls",), ["falls"], ["fresh", 1], ("fresh",), ("fresh", 1, 1),
                                   ("stale",), ("falls", None), ("falls", ()), ("mends", False), ("mends", [1]), ("stands",),
                                   ("stands", [1], 1), ("shown", "a"), ("shown", [1]), ("fewest", []), ("fewest", True),
                                   (Odd(),), (Odd(), 1), (None, 1), (("fresh", 1),), ("Fresh", 1), ("fresh ", 1), ("", 1)]
            for claim in things:
                model = Model(book.deeds())
                if not is_so(model, claim):
                    self.assertIsNone(paper_of(book, claim))
                for paper in things:
                    self.assertIs(holds(book, claim, paper), is_right(model, claim, paper))
            for word, thing in product(WORDS, things + no_cells(book)):
                for claim in ((word, thing), (word, thing, thing), (word, True, thing), (word, "a", thing), (word, thing, [1]),
                              (word, thing, thing, thing), (word, True, [thing]), (word, "a", [thing]), (word, [thing])):
                    if not is_so(model, claim):
                        self.assertIsNone(paper_of(book, claim))
                        self.assertIs(holds(book, claim, ()), False)
                    self.assertIs(holds(book, claim, Odd()), False)
            self.assertEqual(all_of(book), ahead)

    def test_drawn_books(self):
        found = {word: [0, 0] for word in WORDS}
        books = [ready_book(seed, 1 + seed % 4, ("a", "b", "c")) for seed in range(60)]
        books += [drawn_book(seed, 24, 3) for seed in range(60)]
        papers = [(), ("unrun",), ("text", 1), ("gone", 1, "a"), ([], []), ("ring", []), None]
        for book in books:
            ahead, model = all_of(book), Model(book.deeds())
            for claim in claims_on(book):
                told, truth = paper_of(book, claim), is_so(model, claim)
                found[claim[0]][truth] += 1
                self.assertIs(told is not None, truth, claim)
                if truth:
                    self.assertTrue(is_right(model, claim, told), claim)
                    self.assertIs(holds(book, claim, told), True, claim)
                for paper in papers:
                    self.assertIs(holds(book, claim, paper), truth and is_right(model, claim, paper))
                if claim[0] in ("stale", "fewest", "falls") and truth:
                    papers = [told] + papers[:9]
            self.assertEqual(all_of(book), ahead)
        for word in WORDS:
            self.assertGreater(min(found[word]), 4, found)

    def test_deeds_done_and_undone(self):
        book = run_all(book_of("a = 1", "show a"), 1, 2)
        claims = [("fresh", 2), ("stale", 2), ("mends", False, []), ("fewest", False, [2]), ("fewest", False, []),
                  ("shown", "a", [2]), ("stands", [1, 2]), ("falls",)]
        told = [[paper_of(book, claim) for claim in claims]]
        for deed in (lambda: book.run(1), lambda: book.run(2), lambda: book.edit(1, "a = 2"), lambda: book.run(1),
                     lambda: book.strike(2), lambda: book.empty()):
            deed()
            told.append([paper_of(book, claim) for claim in claims])
        self.assertEqual(told[0], [(), None, (), None, ([], []), (), (), None])
        self.assertEqual(told[1], [(), None, (), None, ([], []), (), None, ("gone", 2, "a")])
        self.assertEqual(told[4][1], ("read", "a", 1, 2, 4, 3))
        for at in reversed(range(len(told))):
            self.check_told(book, claims, told[at])
            if at:
                book.undo()
        for papers in told[1:]:
            book.redo()
            self.check_told(book, claims, papers)

    def check_told(self, book, claims, papers):
        """See that claims have the same papers as ahead, and are let by with these alone."""
        for claim, paper in zip(claims, papers):
            self.assertEqual(paper_of(book, claim), paper)
            for other in papers:
                self.assertIs(holds(book, claim, other), is_right(Model(book.deeds()), claim, other))

    def test_told_papers_are_the_askers_own(self):
        book = run_all(book_of("a = 1", "show a", "show 2"))
        claim = ("fewest", False, [1, 2, 3])
        paper, kept = paper_of(book, claim), paper_of(book, claim)
        paper[0][1].clear()
        paper[1].append(7)
        self.assertEqual(paper_of(book, claim), kept)
        self.assertIs(holds(book, claim, paper), False)
        self.assertIs(holds(book, claim, kept), True)
        book = either_book()
        paper, kept = paper_of(book, ("falls",)), paper_of(book, ("falls",))
        paper[2][1].clear()
        self.assertEqual(paper_of(book, ("falls",)), kept)
        self.assertIs(holds(book, ("falls",), paper), False)

    def test_what_is_handed_in_stays(self):
        book = run_all(book_of("a = 1", "show a", "show 2"))
        claim, paper = ("fewest", False, [1, 2, 3]), fence_of(book)
        kept = repr((claim, paper))
        self.assertTrue(holds(book, claim, paper))
        paper_of(book, claim)
        self.assertEqual(repr((claim, paper)), kept)
        tree = stands(either_book())[1]
        kept = repr(tree)
        self.assertTrue(holds(either_book(), ("falls",), tree))
        self.assertEqual(repr(tree), kept)

    def test_somewhat_more_cells_make_no_error(self):
        for many in (5, 7, 8, 12):
            book = run_all(book_of("a = 1", *["show a"] * (many - 1)), *range(1, many + 1))
            book.run(1)
            for claim in (("fresh", 1), ("mends", False, []), ("shown", "a", [2])):
                self.assertEqual(self.check(book, claim), ())
            for claim in (("fewest", False, []), ("stands", book.order()), ("falls",), ("stale", 1)):
                self.assertIn(holds(book, claim, paper_of(book, claim)), (True, False))


if __name__ == "__main__":
    unittest.main()
