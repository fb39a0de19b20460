"""[17.1]: class Desk."""

import random
import unittest

from tests.reference import some_book, some_full_book, some_load
from tests.samples import BOOKS, FEED, FORTY, FORTY_ONE, LATE, LOAD, ONE, OTHERS, WIDE
from twoandabell.book.books import Book, Level
from twoandabell.desk.desk import Desk
from twoandabell.errors import (
    InvalidBook, InvalidLoad, InvalidNumber, InvalidOperation, NothingToUndo, Parted, TooMany, UnknownName)
from twoandabell.pair.joints import alike
from twoandabell.run.loads import chart, is_parting
from twoandabell.run.processors import Processor
from twoandabell.text.books import read_book

CALM = FEED.with_entry("lost", 0, (1, "back", "kept"))
COLD = FEED.with_entry("lost", 0, (0, "back", "new"))
NO_NAMES = (*[value for value in OTHERS if value not in ("level", "none")], "A", "aB", "abcdefghi", "a1", "a b", "a_b",
            " a", "a ", "a\n", "\u00e9", "\u00df", ["a"], ("a",), b"a", FEED)
NO_BOOKS = (*OTHERS, *FEED.levels, FEED.levels, LOAD, "feed", Processor(FEED))


def some_desk():
    """A desk with two books, and two processors of the first one, one of which has worked."""
    desk = Desk()
    desk.put("feed", FEED)
    desk.put("late", LATE)
    desk.start("cpu", "feed")
    desk.start("aux", "feed")
    desk.do("cpu", LOAD[:2])
    return desk


def picture_of(desk):
    """All that can be asked of a desk."""
    return (desk.books, desk.processors, desk.log, len(desk), list(desk), str(desk), desk.kinds(),
            [(name, str(desk.book_of(name)), desk.book_of(name)) for name in desk.books],
            [(name, desk.followed_by(name), desk.processor_of(name), desk.processor_of(name).chart,
              desk.processor_of(name).log, desk.processor_of(name).book) for name in desk.processors])


class Basics(unittest.TestCase):
    def test_example(self):
        desk = Desk()
        desk.put("feed", FEED)
        desk.put("late", LATE)
        desk.start("cpu", "feed")
        self.assertEqual(
            [desk.do("cpu", LOAD[:2]), desk.adopt("feed", CALM), desk.do("cpu", LOAD[2:]), desk.undo(many=2),
             desk.book_of("feed") == FEED, desk.kinds()],
            [(0, 2), ("cpu",), (0,), 4, True, (("feed",), ("late",))])
        with self.assertRaises(Parted) as caught:
            desk.adopt("feed", LATE)
        self.assertTrue(is_parting(FEED, LATE, caught.exception.load))

    def test_a_new_one(self):
        desk = Desk()
        self.assertEqual((desk.books, desk.processors, desk.log, desk.kinds(), len(desk), list(desk), str(desk)),
                         ((), (), (), (), 0, [], "desk of 0 books, 0 processors"))
        self.assertEqual((Desk.MAX_NAMES, desk.MAX_NAMES), (8, 8))

    def test_what_is_there(self):
        desk = some_desk()
        self.assertEqual((desk.books, desk.processors), (("feed", "late"), ("aux", "cpu")))
        self.assertEqual(list(desk), ["aux", "cpu", "feed", "late"])
        self.assertEqual([desk.book_of("feed"), desk.book_of("late")], [FEED, LATE])
        self.assertEqual([desk.followed_by(name) for name in ("cpu", "aux")], ["feed", "feed"])
        self.assertEqual([desk.processor_of(name).chart for name in ("cpu", "aux")], [(0, 2), ()])
        self.assertEqual([desk.processor_of(name).book for name in ("cpu", "aux")], [FEED, FEED])
        self.assertEqual(desk.log, (("put", "feed"), ("put", "late"), ("start", "cpu"), ("start", "aux"), ("do", "cpu")))
        self.assertEqual((len(desk), str(desk)), (4, "desk of 2 books, 2 processors"))
        for name in ("aux", "cpu", "feed", "late"):
            self.assertIn(name, desk)
        for value in (*OTHERS, "feedx", "FEED", FEED, ["cpu"], ("cpu",)):
            self.assertNotIn(value, desk)

    def test_results(self):
        desk = Desk()
        self.assertIsNone(desk.put("feed", FEED))
        self.assertIsNone(desk.start("cpu", "feed"))
        self.assertEqual(desk.do("cpu", ()), ())
        self.assertEqual(desk.adopt("feed", CALM), ("cpu",))
        self.assertIsNone(desk.drop("cpu"))
        self.assertEqual(desk.adopt("feed", FEED), ())
        self.assertEqual(desk.log, (("put", "feed"), ("start", "cpu"), ("do", "cpu"), ("adopt", "feed"), ("drop", "cpu"),
                                    ("adopt", "feed")))

    def test_loads_go_on(self):
        desk = some_desk()
        self.assertEqual(desk.do("cpu", LOAD[2:]), (0,))
        self.assertEqual(desk.do("aux", LOAD), chart(FEED, LOAD))
        self.assertEqual(desk.processor_of("cpu").chart, chart(FEED, LOAD))
        self.assertEqual(desk.processor_of("cpu"), desk.processor_of("aux"))

    def test_dropping(self):
        desk = some_desk()
        desk.drop("late")
        self.assertEqual((desk.books, list(desk)), (("feed",), ["aux", "cpu", "feed"]))
        with self.assertRaises(InvalidOperation):
            desk.drop("feed")
        desk.drop("cpu")
        with self.assertRaises(InvalidOperation):
            desk.drop("feed")
        desk.drop("aux")
        desk.drop("feed")
        self.assertEqual(list(desk), [])
        # A name can be used again, for another kind.
        desk.put("cpu", ONE)
        desk.start("feed", "cpu")
        self.assertEqual((desk.books, desk.processors), (("cpu",), ("feed",)))

    def test_names(self):
        desk = Desk()
        for name in ("a", "z", "abcdefgh", "zzzzzzzz"):
            desk.put(name, FEED)
        self.assertEqual(desk.books, ("a", "abcdefgh", "z", "zzzzzzzz"))

    def test_no_change_by_what_is_returned(self):
        desk = some_desk()
        before = picture_of(desk)
        processor = desk.processor_of("cpu")
        processor.tick("end")
        processor.come(0)
        self.assertEqual(processor.undo(many=3), 4)
        self.assertEqual(picture_of(desk), before)
        desk.processor_of("cpu").book.levels
        with self.assertRaises(AttributeError):
            desk.books = ()
        with self.assertRaises(AttributeError):
            desk.processors = ()

    def test_equality(self):
        desk, other = some_desk(), some_desk()
        self.assertTrue(desk == other and not desk != other)
        other.do("aux", ())
        self.assertTrue(desk == other)
        other.do("aux", (((), "bell"),))
        # Pictures and orders are equal.
        self.assertTrue(desk == other)
        other.do("aux", (((("come", 0),), "bell"),))
        self.assertFalse(desk == other)
        other.undo(many=3)
        other.put("more", ONE)
        self.assertFalse(desk == other)
        other.drop("more")
        self.assertTrue(desk == other)
        other.adopt("feed", CALM)
        self.assertFalse(desk == other)
        for value in (*OTHERS, FEED, Processor(FEED), "desk"):
            self.assertFalse(desk == value)
            self.assertTrue(desk != value)
        self.assertTrue(Desk() == Desk())

    def test_equally_followed(self):
        one, two = Desk(), Desk()
        for desk in (one, two):
            desk.put("a", FEED)
            desk.put("b", FEED)
        one.start("p", "a")
        two.start("p", "b")
        self.assertFalse(one == two)
        self.assertEqual(one.processor_of("p"), two.processor_of("p"))

    def test_iteration(self):
        desk = some_desk()
        self.assertEqual(sorted(desk), [name for name in desk])
        names = iter(desk)
        self.assertEqual(next(names), "aux")


class Adopting(unittest.TestCase):
    def test_processors_go_on(self):
        for book in (CALM, COLD, FEED):
            desk = some_desk()
            self.assertEqual(desk.adopt("feed", book), ("aux", "cpu"))
            self.assertEqual(desk.book_of("feed"), book)
            for name in ("cpu", "aux"):
                self.assertEqual(desk.processor_of(name).book, book)
                self.assertEqual(desk.followed_by(name), "feed")
            right = Processor(book)
            right.do(LOAD[:2])
            self.assertEqual(desk.processor_of("cpu"), right)
            self.assertEqual((desk.processor_of("cpu").chart, desk.processor_of("cpu").log), ((0, 2), right.log))
            self.assertEqual(desk.processor_of("cpu").done, LOAD[:2])
            self.assertEqual(desk.processor_of("cpu").queues(), right.queues())
            self.assertEqual(desk.do("cpu", LOAD[2:]), (0,))

    def test_pictures_are_those_of_the_new_book(self):
        # One level that does as two: who has used up a slice is at another level, but works just when it did.
        one = Book(ONE.levels[0].replaced("used", (0, "back")), ONE.levels[0].replaced("lost", (1, "back", "new")),
                   ranks=(0, 0))
        two = one.with_entry("used", 0, (1, "back")).with_entry("come", 1, 1).with_entry("come", 0, 1)
        two = two.with_entry("wake", 0, (1, "back", "new")).with_entry("way", 0, (1, "back", "new"))
        two = two.with_entry("used", 1, (1, "back")).with_entry("wake", 1, (1, "back", "new"))
        two = two.with_entry("way", 1, (1, "back", "new"))
        self.assertTrue(alike(one, two))
        desk = Desk()
        desk.put("book", one)
        desk.start("cpu", "book")
        load = (((("come", 0), ("come", 1)), "on"), ((), "sleep"))
        told = desk.do("cpu", load)
        self.assertEqual(desk.processor_of("cpu").picture, (("ready", 0, 1), ("asleep", 0, 0)))
        desk.adopt("book", two)
        self.assertEqual(desk.processor_of("cpu").picture, (("ready", 1, 1), ("asleep", 1, 0)))
        self.assertEqual(desk.processor_of("cpu").chart, told)
        desk.undo()
        self.assertEqual(desk.processor_of("cpu").picture, (("ready", 0, 1), ("asleep", 0, 0)))
        desk.redo()
        self.assertEqual(desk.processor_of("cpu").picture, (("ready", 1, 1), ("asleep", 1, 0)))

    def test_other_followers_stay(self):
        desk = some_desk()
        desk.start("third", "late")
        before = desk.processor_of("third")
        self.assertEqual(desk.adopt("feed", CALM), ("aux", "cpu"))
        self.assertEqual(desk.processor_of("third"), before)
        self.assertEqual(desk.processor_of("third").book, LATE)

    def test_many_loads(self):
        source = random.Random("adopt")
        done = 0
        while done < 25:
            book = some_book(source)
            key = source.choice(book.entries())
            other = book.with_entry(*key, source.choice(book.values_for(*key)))
            if not alike(book, other):
                continue
            done += 1
            load = some_load(source, book, 30, 5)
            desk = Desk()
            desk.put("book", book)
            desk.start("cpu", "book")
            desk.do("cpu", load[:10])
            desk.do("cpu", load[10:17])
            self.assertEqual(desk.adopt("book", other), ("cpu",))
            self.assertEqual(desk.do("cpu", load[17:]), chart(book, load)[17:])
            self.assertEqual(desk.processor_of("cpu").chart, chart(other, load))

    def test_books_that_part(self):
        desk = some_desk()
        before = picture_of(desk)
        for book in (LATE, FEED.with_entry("come", 0, 1), FEED.with_entry("ticks", 1, 3)):
            with self.assertRaises(Parted) as caught:
                desk.adopt("feed", book)
            self.assertTrue(is_parting(FEED, book, caught.exception.load))
            self.assertEqual(picture_of(desk), before)

    def test_errors_in_their_order(self):
        desk = some_desk()
        for name in (*NO_NAMES, "cpu", "no"):
            with self.assertRaises(UnknownName) as caught:
                desk.adopt(name, None)
            self.assertIs(caught.exception.word, name)
        for book in (*NO_BOOKS, WIDE, Book.of(FEED.levels, (0,))):
            with self.assertRaises(InvalidBook):
                desk.adopt("feed", book)
        book = some_full_book(random.Random(1))
        desk.put("big", book)
        with self.assertRaises(TooMany) as caught:
            desk.adopt("big", book.with_entry("ticks", 0, 2))
        self.assertEqual(caught.exception.limit, 20000)


class Kinds(unittest.TestCase):
    def test_kinds(self):
        desk = Desk()
        for name, book in (("d", FEED), ("a", LATE), ("c", CALM), ("b", ONE), ("f", WIDE), ("e", COLD)):
            desk.put(name, book)
        self.assertEqual(desk.kinds(), (("a",), ("b",), ("c", "d", "e"), ("f",)))
        # With other numbers of ranks books are apart.
        desk.put("g", Book.of(FEED.levels, (0, 1, 1)))
        self.assertEqual(desk.kinds(), (("a",), ("b",), ("c", "d", "e"), ("f",), ("g",)))
        self.assertEqual(desk.log[-1], ("put", "g"))

    def test_too_many(self):
        book = some_full_book(random.Random(1))
        desk = Desk()
        desk.put("a", book)
        desk.put("b", book.with_entry("ticks", 0, 2))
        with self.assertRaises(TooMany) as caught:
            desk.kinds()
        self.assertEqual(caught.exception.limit, 20000)


class Errors(unittest.TestCase):
    def test_put(self):
        desk = some_desk()
        for name in (*NO_NAMES, "feed", "cpu"):
            with self.assertRaises(InvalidOperation):
                desk.put(name, None)
        for book in NO_BOOKS:
            with self.assertRaises(InvalidBook):
                desk.put("new", book)

    def test_start(self):
        desk = some_desk()
        for name in (*NO_NAMES, "feed", "cpu"):
            with self.assertRaises(InvalidOperation):
                desk.start(name, None)
        for book in (*NO_NAMES, "cpu", "no", FEED):
            with self.assertRaises(UnknownName) as caught:
                desk.start("new", book)
            self.assertIs(caught.exception.word, book)

    def test_the_ninth_name(self):
        desk = some_desk()
        for name in ("a", "b", "c"):
            desk.put(name, ONE)
        desk.start("d", "a")
        self.assertEqual(len(desk), 8)
        before = picture_of(desk)
        for call in (lambda: desk.put("e", FEED), lambda: desk.start("e", "feed")):
            with self.assertRaises(TooMany) as caught:
                call()
            self.assertEqual(caught.exception.limit, 8)
        # The other errors come ahead of it.
        with self.assertRaises(InvalidOperation):
            desk.put("a", None)
        with self.assertRaises(InvalidBook):
            desk.put("e", None)
        with self.assertRaises(UnknownName):
            desk.start("e", "cpu")
        self.assertEqual(picture_of(desk), before)
        desk.drop("d")
        desk.put("e", FEED)
        self.assertEqual(len(desk), 8)

    def test_names_that_are_not_known(self):
        desk = some_desk()
        for name in (*NO_NAMES, "no"):
            for call in (lambda: desk.drop(name), lambda: desk.do(name, None), lambda: desk.book_of(name),
                         lambda: desk.processor_of(name), lambda: desk.followed_by(name)):
                with self.assertRaises(UnknownName) as caught:
                    call()
                self.assertIs(caught.exception.word, name)
        for call in (lambda: desk.do("feed", LOAD), lambda: desk.processor_of("feed"), lambda: desk.followed_by("feed"),
                     lambda: desk.book_of("cpu")):
            with self.assertRaises(UnknownName):
                call()

    def test_loads(self):
        desk = some_desk()
        before = picture_of(desk)
        for load in (*OTHERS, FEED, [LOAD[0]]):
            if load != ():
                with self.assertRaises(InvalidLoad):
                    desk.do("cpu", load)
        for load, error in (((((("come", 2),), "on"),), InvalidNumber), (((((("wake", 0),), "on"),)), InvalidOperation),
                            ((LOAD[2], ((("wake", 9),), "on")), InvalidOperation), ((((), "on"),) * 399, TooMany)):
            with self.assertRaises(error):
                desk.do("cpu", load)
        self.assertEqual(picture_of(desk), before)

    def test_undo_and_redo(self):
        desk = some_desk()
        desk.undo(many=2)
        before = picture_of(desk)
        for many in (*OTHERS, FEED):
            if not (type(many) is int and 0 <= many < FORTY_ONE):
                for function in (desk.undo, desk.redo):
                    with self.assertRaises(InvalidNumber) as caught:
                        function(many=many)
                    self.assertIs(caught.exception.number, many)
        for function, many in ((desk.undo, 4), (desk.undo, FORTY), (desk.redo, 3), (desk.redo, FORTY)):
            with self.assertRaises(NothingToUndo) as caught:
                function(many=many)
            self.assertEqual(caught.exception.many, many)
        for function in (desk.undo, desk.redo):
            with self.assertRaises(TypeError):
                function(1)
        self.assertEqual(picture_of(desk), before)


class Undoing(unittest.TestCase):
    def steps(self):
        """Steps of all kinds, each a function of a desk."""
        return [lambda desk: desk.put("feed", FEED), lambda desk: desk.start("cpu", "feed"),
                lambda desk: desk.do("cpu", LOAD[:2]), lambda desk: desk.put("late", LATE),
                lambda desk: desk.adopt("feed", CALM), lambda desk: desk.do("cpu", ()),
                lambda desk: desk.do("cpu", LOAD[2:]), lambda desk: desk.start("aux", "late"),
                lambda desk: desk.adopt("feed", COLD), lambda desk: desk.drop("aux"), lambda desk: desk.drop("late"),
                lambda desk: desk.drop("cpu"), lambda desk: desk.drop("feed")]

    def test_every_number_of_steps(self):
        pictures, desk = [picture_of(Desk())], Desk()
        for step in self.steps():
            step(desk)
            pictures.append(picture_of(desk))
        many = len(pictures) - 1
        self.assertEqual(len(desk.log), many)
        for back in range(many + 1):
            self.assertEqual(desk.undo(many=back), many - back)
            self.assertEqual(picture_of(desk), pictures[many - back])
            for forth in range(back + 1):
                self.assertEqual(desk.redo(many=forth), many - back + forth)
                self.assertEqual(picture_of(desk), pictures[many - back + forth])
                desk.undo(many=forth)
            self.assertEqual(desk.redo(many=back), many)

    def test_one_step_is_the_default(self):
        desk = some_desk()
        self.assertEqual((desk.undo(), desk.undo(), desk.redo()), (4, 3, 4))

    def test_a_further_step_forgets_what_was_taken_back(self):
        for step in (lambda desk: desk.put("new", ONE), lambda desk: desk.start("new", "late"),
                     lambda desk: desk.do("cpu", ()), lambda desk: desk.adopt("feed", FEED),
                     lambda desk: desk.drop("late")):
            desk = some_desk()
            desk.undo()
            step(desk)
            with self.assertRaises(NothingToUndo):
                desk.redo()
            self.assertEqual(len(desk.log), 5)

    def test_what_is_no_step_forgets_nothing(self):
        desk = some_desk()
        desk.undo()
        desk.kinds()
        picture_of(desk)
        desk.undo(many=0)
        desk.redo(many=0)
        for call in (lambda: desk.put("feed", FEED), lambda: desk.start("a", "no"), lambda: desk.drop("feed"),
                     lambda: desk.do("cpu", None), lambda: desk.adopt("feed", LATE)):
            with self.assertRaises((ValueError, LookupError)):
                call()
        with desk.trial() as same:
            same.put("new", ONE)
        self.assertEqual(desk.redo(), 5)
        self.assertEqual(desk, some_desk())


class Trials(unittest.TestCase):
    def test_behind_a_block(self):
        desk = some_desk()
        desk.undo()
        before = picture_of(desk)
        with desk.trial() as same:
            self.assertIs(same, desk)
            same.adopt("feed", CALM)
            same.do("cpu", LOAD)
            same.undo(many=4)
            self.assertNotEqual(picture_of(desk), before)
        self.assertEqual(picture_of(desk), before)
        # Also what can be done again.
        self.assertEqual(desk.redo(), 5)
        self.assertEqual(desk.processor_of("cpu").chart, (0, 2))

    def test_behind_an_error(self):
        desk = some_desk()
        before = picture_of(desk)
        with self.assertRaises(UnknownName):
            with desk.trial() as same:
                same.drop("late")
                same.drop("no")
        self.assertEqual(picture_of(desk), before)
        with self.assertRaises(ZeroDivisionError):
            desk.during(lambda same: same.drop("late") or 1 // 0)
        self.assertEqual(picture_of(desk), before)

    def test_during(self):
        desk = some_desk()
        before = picture_of(desk)
        self.assertEqual(desk.during(lambda same: same.do("cpu", LOAD[2:])), (0,))
        self.assertIs(desk.during(lambda same: same), desk)
        self.assertEqual(desk.during(lambda same: same.during(lambda inner: inner.undo(many=3)) + len(same.log)), 7)
        self.assertEqual(picture_of(desk), before)

    def test_blocks_in_one_another(self):
        desk = some_desk()
        before = picture_of(desk)
        trial = desk.trial()
        with trial:
            desk.put("a", ONE)
            with trial:
                desk.put("b", ONE)
            self.assertEqual(desk.books, ("a", "feed", "late"))
        self.assertEqual(picture_of(desk), before)

    def test_twins(self):
        desk = some_desk()
        desk.undo()
        twin = desk.twin()
        self.assertTrue(twin == desk and twin is not desk)
        self.assertEqual(twin.log, desk.log)
        twin.redo()
        self.assertEqual((len(twin.log), len(desk.log)), (5, 4))
        desk.adopt("feed", CALM)
        twin.do("aux", LOAD)
        self.assertEqual((twin.book_of("feed"), desk.book_of("feed")), (FEED, CALM))
        self.assertEqual((twin.processor_of("aux").chart, desk.processor_of("aux").chart), ((0, 2, 0), ()))
        with self.assertRaises(NothingToUndo):
            desk.redo()
        self.assertEqual((twin.undo(many=6), desk.undo(many=5)), (0, 0))
        self.assertEqual((twin.redo(many=6), desk.redo(many=5)), (6, 5))


if __name__ == "__main__":
    unittest.main()
