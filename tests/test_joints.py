"""[10.1] to [10.3], and [0.13]: reached joint stands, and whether books are alike or part."""

import random
import unittest
from unittest.mock import patch

from tests.reference import lost_pair, parted_loads, some_book, some_full_book, some_pair, stands_by_form
from tests.samples import BOOKS, FEED, FORTY, FORTY_ONE, LATE, LOAD, ONE, OTHERS, WIDE
from twoandabell.book.books import Book, Level
from twoandabell.book.states import fresh, moves_alone, posture_after
from twoandabell.errors import InvalidBook, InvalidNumber, InvalidStand, TooMany
from twoandabell.pair import bounds, joints
from twoandabell.pair.bounds import are_at_most
from twoandabell.pair.cuts import cut
from twoandabell.pair.forms import Forms
from twoandabell.pair.graphs import BITS, FIRST_STAND, MASK, Graph, number_of_stand
from twoandabell.pair.joints import Reach, alike, is_paper, is_table, paper, parting_load
from twoandabell.pair.stands import FIRST, exchanged, is_stand, load_of, moves_at, stand_after, worker_at
from twoandabell.pair.walks import Walk
from twoandabell.run.loads import chart, is_parting

NO_BOOKS = (*OTHERS, *FEED.levels, FEED.levels, LOAD)
# Two books with 27,694 joint stands, and a load at which they part.
HUGE = [some_full_book(random.Random(seed)) for seed in (1, 2)]
HUGE_LOAD = (((("come", 1), ("come", 0)), "way"), ((), "on"))
CALM = ONE.with_entry("lost", 0, (0, "front", "kept"))
# By these books both tasks can be asleep in level 0, with nothing left or without a slice. This has the number 0.
SHORT = Book(
    Level(1, used=(0, "back"), wake=(0, "front", "kept"), way=(0, "front", "kept"), lost=(0, "front", "kept")),
    ranks=(0,),
)
DEEP = Book(
    Level(1, used=(0, "back"), wake=(1, "front", "kept"), way=(0, "back", "new"), lost=(1, "front", "new")),
    Level(1, used=(1, "back"), wake=(1, "back", "kept"), way=(0, "back", "new"), lost=(1, "front", "new")),
    ranks=(0,),
)
BARE = Book(
    Level(used=(1, "back"), wake=(1, "back", "new"), way=(0, "back", "new"), lost=(0, "front", "new")),
    Level(used=(0, "front"), wake=(1, "back", "kept"), way=(0, "front", "kept"), lost=(1, "back", "kept")),
    ranks=(0,),
)
CLEAR = BARE.with_entry("wake", 0, (0, "front", "new"))
BOTH_ASLEEP = [(SHORT, DEEP), (DEEP, SHORT), (BARE, CLEAR), (CLEAR, BARE)]


def some_pairs(many, seed):
    source = random.Random(seed)
    return [some_pair(source) for _ in range(many)]


def is_small(book, other):
    """Whether two books have not more than 200 joint stands."""
    try:
        return bool(Walk(Graph(book), Graph(other), 200).before)
    except TooMany:
        return False


PAIRS = [(FEED, FEED), (FEED, LATE), (ONE, CALM), (ONE, FEED), (WIDE, WIDE), *BOTH_ASLEEP,
         *[pair for pair in some_pairs(25, "joints") if is_small(*pair)]]


def swapped(book, other, joint):
    return (exchanged(book, joint[0]), exchanged(other, joint[1]))


def kind(part):
    return "there" if part[0] in ("ready", "runs") else part[0]


def are_joint(one, two):
    """Whether two stands are the halves of a joint one, by the letter of [10.1]."""
    return all(kind(one[task]) == kind(two[task]) for task in (0, 1))


def steps(book, other, joint):
    """The pairs of a move from a joint stand on, and whether it counts, with the joint stand behind it."""
    one, two = joint
    same = worker_at(book, one) == worker_at(other, two)
    found = []
    for move in moves_at(book, one):
        if move[0] != "tick" or same:
            found.append((move, move[0] in ("tick", "bell"),
                          (stand_after(book, one, move), stand_after(other, two, move))))
    return found


def all_reached(book, other):
    """A dict from each reached joint stand to the least number of ticks and bells, by the letter of [10.1]."""
    found = {(FIRST, FIRST): 0}
    waiting = [(FIRST, FIRST)]
    while waiting:
        joint = waiting.pop(0)
        for _, counts, behind in steps(book, other, joint):
            if found.get(behind, 10 ** 9) > found[joint] + counts:
                found[behind] = found[joint] + counts
                waiting.append(behind)
    return found


class Reaching(unittest.TestCase):
    def test_examples(self):
        self.assertEqual([len(Reach(ONE, ONE)), Reach(ONE, ONE).parted], [17, ()])
        self.assertEqual(joints.MAX_JOINTS, 20000)

    def test_as_by_moves(self):
        for book, other in PAIRS:
            right, reach = all_reached(book, other), Reach(book, other)
            self.assertEqual(reach.joints, tuple(sorted(right)))
            self.assertEqual(len(reach), len(right))
            parted = tuple(joint for joint in sorted(right)
                           if worker_at(book, joint[0]) != worker_at(other, joint[1]))
            self.assertEqual(reach.parted, parted)
            self.assertEqual(reach.table, None if parted else reach.joints)
            for many in range(max(right.values()) + 2):
                self.assertEqual(reach.layer(many), tuple(sorted(joint for joint in right if right[joint] == many)))
            self.assertEqual((reach.layer(10 ** 6), reach.layer(FORTY)), ((), ()))

    def joints_on_way(self, book, other, joint, moves):
        """The joint stands ahead of each of some moves, which lead to a joint stand."""
        found, at = [], (FIRST, FIRST)
        for move in moves:
            possible = {one: behind for one, _, behind in steps(book, other, at)}
            self.assertIn(move, possible)
            found.append(at)
            at = possible[move]
        self.assertEqual(at, joint)
        return found

    def test_moves_that_lead_to_a_joint_stand(self):
        for book, other in PAIRS:
            right, reach = all_reached(book, other), Reach(book, other)
            for joint in reach.joints:
                moves = reach[joint]
                self.assertIsInstance(moves, tuple)
                self.joints_on_way(book, other, joint, moves)
                self.assertEqual(len([move for move in moves if move[0] in ("tick", "bell")]), right[joint])
            self.assertEqual(reach[FIRST, FIRST], ())

    def test_moves_that_lead_on_from_both_asleep(self):
        """Both tasks asleep in level 0, with nothing left or without a slice, is a joint stand like any other."""
        for book, other in BOTH_ASLEEP:
            asleep = [("asleep", 0, None if one["ticks", 0] is None else 0) for one in (book, other)]
            both = tuple((part, part, None) for part in asleep)
            reach = Reach(book, other)
            self.assertEqual([move[0] for move in reach[both]].count("tick"), 2)
            ways = [self.joints_on_way(book, other, joint, reach[joint]) for joint in reach.joints]
            # If no way went on from there, this would not be tested.
            self.assertTrue(any(both in way for way in ways))

    def test_moves_that_lead_to_joint_stands_of_many_books(self):
        for book, other in some_pairs(150, "ways"):
            if is_small(book, other):
                reach = Reach(book, other)
                for joint in reach.joints:
                    moves = reach[joint]
                    self.joints_on_way(book, other, joint, moves)
                    self.assertIn(joint, reach.layer(len([move for move in moves if move[0] in ("tick", "bell")])))

    def test_each_stand_is_exchanged_once(self):
        swap = Graph.swap
        for book, other in BOTH_ASLEEP:
            told = []

            def counted(graph, number):
                told.append((graph.alone is book.told_alone(), number))
                return swap(graph, number)

            with patch.object(Graph, "swap", counted):
                Walk(Graph(book), Graph(other), 200)
            self.assertIn((True, 0), told)
            self.assertEqual(len(told), len(set(told)))

    def test_what_is_reached_is_joint(self):
        for book, other in PAIRS:
            reach = Reach(book, other)
            for joint in reach.joints:
                self.assertTrue(is_stand(book, joint[0]) and is_stand(other, joint[1]) and are_joint(*joint))
                self.assertIn(swapped(book, other, joint), reach)

    def test_members_of_every_kind(self):
        reach = Reach(FEED, LATE)
        source = random.Random("members")
        values = [(one, two) for one in stands_by_form(FEED) for two in source.sample(stands_by_form(LATE), 4)]
        values += [(one, one) for one in stands_by_form(FEED)]
        for value in (*values, *OTHERS, FEED, reach, FIRST, (FIRST,), (FIRST, FIRST, FIRST), [FIRST, FIRST],
                      (FIRST, list(FIRST)), ([], {}), (FIRST, (("ready", True, 1), ("away",), None)),
                      ((("ready", True, 2), ("away",), None), (("ready", 1, 2), ("away",), None))):
            right = any(value == joint and repr(value) == repr(joint) for joint in reach.joints)
            self.assertIs(value in reach, right)
            if not right:
                with self.assertRaises(InvalidStand):
                    reach[value]

    def test_no_iteration_and_no_change(self):
        reach = Reach(FEED, FEED)
        with self.assertRaises(TypeError):
            list(reach)
        for name in ("joints", "parted", "table"):
            with self.assertRaises(AttributeError):
                setattr(reach, name, ())

    def test_layers_that_are_none(self):
        reach = Reach(ONE, ONE)
        self.assertEqual(reach.layer(0), tuple(sorted(all_free(ONE))))
        for many in (*OTHERS, FEED):
            if type(many) is int and 0 <= many < FORTY_ONE:
                continue
            with self.assertRaises(InvalidNumber) as caught:
                reach.layer(many)
            self.assertIs(caught.exception.number, many)

    def test_wrong_books(self):
        for value in NO_BOOKS:
            for pair in ((value, FEED), (FEED, value), (value, value)):
                for function in (Reach, alike, parting_load, paper, lambda *books: is_table(*books, None),
                                 lambda *books: is_paper(*books, None)):
                    with self.assertRaises(InvalidBook):
                        function(*pair)
        for other in (WIDE, Book.of(FEED.levels, (0,)), Book.of(FEED.levels, (0, 1, 1))):
            for function in (Reach, alike, parting_load, paper, lambda *books: is_table(*books, ()),
                             lambda *books: is_paper(*books, ("parting", LOAD))):
                with self.assertRaises(InvalidBook):
                    function(FEED, other)


def all_free(book):
    """The joint stands that a book has with itself ahead of all ticks and bells."""
    return [joint for joint, many in all_reached(book, book).items() if many == 0]


class TooManyJoints(unittest.TestCase):
    def test_more_than_the_limit(self):
        for function in (Reach, alike, parting_load, paper):
            with self.assertRaises(TooMany) as caught:
                function(*HUGE)
            self.assertEqual(caught.exception.limit, 20000)

    def test_papers_are_judged_all_the_same(self):
        # It is met also if the books part soon, for all reached joint stands are counted.
        self.assertIs(is_paper(*HUGE, ("parting", HUGE_LOAD)), True)
        self.assertIs(is_paper(*HUGE, ("parting", HUGE_LOAD[:1])), False)
        self.assertIs(is_paper(*HUGE, ("alike", ())), False)
        self.assertIs(is_table(*HUGE, ((FIRST, FIRST),)), False)

    def test_less_than_the_limit(self):
        source = random.Random(4)
        book = some_full_book(source)
        other = book.with_entry("wake", 0, (1, "back", "kept"))
        reach = Reach(book, other)
        self.assertEqual((len(reach), len(reach.joints), len(reach.parted)), (17388, 17388, 1186))
        self.assertTrue(is_parting(book, other, parting_load(book, other)))

    def test_just_at_the_limit(self):
        for book, other in PAIRS:
            one, two, many = Graph(book), Graph(other), len(Reach(book, other))
            self.assertEqual(len(Walk(one, two, many).before), many)
            with self.assertRaises(TooMany) as caught:
                Walk(one, two, many - 1)
            self.assertEqual(caught.exception.limit, many - 1)


class AlikeOrParting(unittest.TestCase):
    def test_examples(self):
        self.assertEqual([alike(FEED, FEED), alike(FEED, LATE), len(parting_load(FEED, LATE))], [True, False, 3])
        self.assertIs(alike(ONE, FEED.with_entry("used", 0, (0, "back"))), False)
        self.assertEqual(paper(ONE, ONE.with_entry("takes", 0, 0))[0], "alike")
        self.assertIs(is_paper(FEED, LATE, ("parting", LOAD)), True)
        self.assertIs(is_table(ONE, ONE, Reach(ONE, ONE).joints[1:]), False)

    def test_books_with_other_numbers_of_levels(self):
        wide = Book(*FEED.levels, Level.plain(2), ranks=(0, 1))
        self.assertIs(alike(FEED, wide), True)
        self.assertIsNone(parting_load(wide, FEED))
        self.assertTrue(is_table(wide, FEED, paper(wide, FEED)[1]))
        # Two levels that do as one.
        same = Level(1, used=(0, "back"), wake=(0, "back", "new"), way=(0, "back", "new"), lost=(1, "back", "new"))
        self.assertIs(alike(ONE, Book(ONE.levels[0], same, ranks=(0, 0))), True)
        self.assertIs(alike(ONE, Book(ONE.levels[0], same, ranks=(0, 1))), False)

    def test_every_pair_has_just_one_paper(self):
        alike_ones = 0
        for book, other in (*PAIRS, *some_pairs(40, "papers")):
            found, load = paper(book, other), parting_load(book, other)
            self.assertTrue(is_paper(book, other, found))
            self.assertIs(alike(book, other), load is None)
            if load is None:
                self.assertEqual(found, ("alike", Reach(book, other).table))
                self.assertTrue(is_table(book, other, found[1]))
                alike_ones += 1
            else:
                self.assertEqual(found[0], "parting")
                self.assertTrue(is_parting(book, other, load) and is_parting(other, book, load))
                self.assertEqual(len(load), len(found[1]))
                self.assertEqual(sum(word == "come" for comings, _ in load for word, _ in comings), 2)
                self.assertIsNone(Reach(book, other).table)
                self.assertFalse(is_table(book, other, Reach(book, other).joints))
            self.assertIs(alike(other, book), load is None)
        self.assertGreater(alike_ones, 10)

    def test_it_ends_at_a_nearest_parted_joint_stand(self):
        far = 0
        for book, other in (*PAIRS, *some_pairs(40, "nearest")):
            reach, load = Reach(book, other), parting_load(book, other)
            if load is not None:
                parted = [joint for joint in reach.layer(len(load) - 1) if joint in reach.parted]
                self.assertTrue(parted)
                for many in range(len(load) - 1):
                    self.assertFalse([joint for joint in reach.layer(many) if joint in reach.parted])
                far += len(parted) < len(reach.parted)
        self.assertGreater(far, 10)

    def test_loads_that_would_be_too_long(self):
        # No books are known that need so many ticks, so the limit is made a small one.
        with patch("twoandabell.pair.courses.MAX_LOAD", 2):
            for function in (parting_load, paper):
                with self.assertRaises(TooMany) as caught:
                    function(FEED, LATE)
                self.assertEqual(caught.exception.limit, 2)
            self.assertIs(alike(FEED, LATE), False)
            self.assertEqual(len(Reach(FEED, LATE)), 81)
        with patch("twoandabell.pair.courses.MAX_LOAD", 3):
            self.assertEqual(len(parting_load(FEED, LATE)), 3)

    def test_no_load_of_many_tasks_is_shorter(self):
        for book, other, load in (*parted_loads(60, "short"), *parted_loads(40, "lost ones", 40, 6, lost_pair)):
            try:
                shortest = parting_load(book, other)
            except TooMany:
                continue
            self.assertLessEqual(len(shortest), len(load))
            self.assertTrue(is_parting(book, other, shortest))
            self.assertTrue(is_paper(book, other, ("parting", load)))
            self.assertTrue(is_paper(book, other, ("parting", cut(book, other, load))))

    def test_no_load_of_two_tasks_is_shorter(self):
        source = random.Random("shortest")
        tried = 0
        while tried < 12:
            book, other = some_pair(source, 1)
            load = parting_load(book, other)
            if load is None or len(load) > 4:
                continue
            tried += 1
            self.assertFalse(self.is_parting_within(book, other, len(load) - 1))

    def is_parting_within(self, book, other, many):
        """Whether the charts of some load of two tasks of one rank differ within so many ticks."""
        loads = [()]
        for _ in range(many):
            longer = []
            for load in loads:
                for comings in ((), (("come", 0),), (("come", 0), ("come", 0)), (("wake", 0),), (("wake", 1),),
                                (("wake", 0), ("wake", 1)), (("wake", 1), ("wake", 0)), (("come", 0), ("wake", 0)),
                                (("wake", 0), ("come", 0))):
                    for word in ("on", "sleep", "way", "end", "bell"):
                        longer.append((*load, (comings, word)))
            loads = [load for load in longer if self.is_possible(book, load)]
            if any(chart(book, load) != chart(other, load) for load in loads):
                return True
        return False

    def is_possible(self, book, load):
        come = [coming for comings, _ in load for coming in comings if coming[0] == "come"]
        try:
            return len(come) <= 2 and len(chart(book, load)) > 0
        except ValueError:
            return False

    def test_parting_within_itself(self):
        # The check of the test above finds what there is to find.
        book = Book(ONE.levels[0], ranks=(0,))
        other = book.with_entry("used", 0, (0, "front"))
        self.assertFalse(self.is_parting_within(book, other, 1))
        self.assertTrue(self.is_parting_within(book, other, 2))
        self.assertEqual(len(parting_load(book, other)), 2)


class Tables(unittest.TestCase):
    def setUp(self):
        wide = Book(*FEED.levels, Level.plain(2), ranks=(0, 1))
        self.pairs = [(ONE, ONE), (ONE, CALM), (FEED, FEED), (FEED, wide), (wide, FEED)]

    def test_with_joint_stands_left_out(self):
        for book, other in self.pairs:
            table = Reach(book, other).table
            self.assertIs(is_table(book, other, table), True)
            for index in range(0, len(table), 1 if len(table) < 40 else 7):
                self.assertIs(is_table(book, other, table[:index] + table[index + 1:]), False)

    def test_with_joint_stands_put_in(self):
        # All stands by the form beside themselves are closed under moves, reached or not.
        for book in (ONE, FEED):
            every = tuple((stand, stand) for stand in stands_by_form(book))
            self.assertIs(is_table(book, book, every), True)
            reached = Reach(book, book).table
            self.assertGreater(len(every), len(reached))
            self.assertIs(is_paper(book, book, ("alike", every)), True)
            for joint in [joint for joint in every if joint not in reached][::9]:
                grown = tuple(sorted({*reached, joint}))
                closed = all(behind in grown for _, _, behind in steps(book, book, joint))
                self.assertIs(is_table(book, book, grown), closed)

    def test_one_put_in_at_which_different_tasks_would_work(self):
        table = Reach(FEED, FEED).table
        for stand in [stand for stand, _ in table if stand[2] is not None]:
            joint = (stand, (*stand[:2], 1 - stand[2]))
            self.assertIs(is_table(FEED, FEED, tuple(sorted({*table, joint}))), False)

    def test_closed_but_not_joint(self):
        # Who comes and who wakes comes to the same, so as many moves lead to the same stands.
        book = Book(ONE.levels[0], ranks=(0,))
        table = Reach(book, book).table
        ended, away, asleep = ("ended",), ("away",), ("asleep", 0, 0)
        for one, two in (((ended, away, None), (ended, asleep, None)), ((away, ended, None), (asleep, ended, None))):
            for joint in ((one, two), (two, one)):
                self.assertIs(is_table(book, book, tuple(sorted([*table, joint]))), False)

    def test_one_put_in_whose_second_half_is_no_stand(self):
        wide = Book(*FEED.levels, Level.plain(2), ranks=(0, 1))
        third = (("ready", 2, None), ("ended",), None)
        table = Reach(wide, wide).table
        closed = {*table, (third, third)}
        while True:
            more = {behind for joint in closed for _, _, behind in steps(wide, wide, joint)} - closed
            if not more:
                break
            closed |= more
        self.assertIs(is_table(wide, wide, tuple(sorted(closed))), True)
        for book, other in ((wide, FEED), (FEED, wide), (FEED, FEED)):
            self.assertIs(is_table(book, other, tuple(sorted(closed))), False)
        for half in (None, 0, [], (), FIRST[:2], list(FIRST), (("away",), ["away"], None)):
            for joint in ((FIRST, half), (half, FIRST)):
                self.assertIs(is_table(wide, wide, (joint,)), False)
                self.assertIs(is_table(wide, wide, (*table, joint)), False)

    def test_one_put_in_that_is_not_joint(self):
        table = Reach(ONE, ONE).table
        for one in stands_by_form(ONE):
            for two in stands_by_form(ONE):
                if not are_joint(one, two):
                    self.assertIs(is_table(ONE, ONE, tuple(sorted([*table, (one, two)]))), False)

    def test_with_joint_stands_changed_or_exchanged(self):
        for book, other in self.pairs:
            table = Reach(book, other).table
            for index in range(0, len(table), 1 if len(table) < 40 else 7):
                for value in (None, [], True, FIRST, list(table[index]), (*table[index], None), table[index - 1],
                              (table[index][0], FIRST), (FIRST, table[index][1]), table[index][::-1] + (0,)):
                    changed = (*table[:index], value, *table[index + 1:])
                    self.assertIs(is_table(book, other, changed), value == table[index] and type(value) is tuple)
            self.assertIs(is_table(book, other, table[::-1]), False)
            self.assertIs(is_table(book, other, (table[1], table[0], *table[2:])), False)
            self.assertIs(is_table(book, other, (table[0], *table)), False)
            self.assertIs(is_table(book, other, (*table, table[-1])), False)

    def test_booleans_are_no_numbers(self):
        table = Reach(ONE, ONE).table
        for index, (one, two) in enumerate(table):
            for old, new in ((0, False), (1, True)):
                for part in (one[0], one[1]):
                    turned = tuple(new if type(entry) is int and entry == old else entry for entry in part)
                    stand = tuple(turned if other == part else other for other in one)
                    if repr(stand) != repr(one):
                        self.assertIs(is_table(ONE, ONE, (*table[:index], (stand, two), *table[index + 1:])), False)
            if one[2] is not None:
                stand = (*one[:2], bool(one[2]))
                self.assertIs(is_table(ONE, ONE, (*table[:index], (stand, two), *table[index + 1:])), False)

    def test_tables_of_other_books(self):
        self.assertIs(is_table(FEED, FEED, Reach(ONE, ONE).table), False)
        self.assertIs(is_table(FEED, LATE, Reach(FEED, FEED).table), False)
        self.assertIs(is_table(ONE, FEED, Reach(ONE, ONE).table), False)

    def test_values_of_other_kinds(self):
        for value in (*OTHERS, *BOOKS, Reach(ONE, ONE), list(Reach(ONE, ONE).table), ("alike", Reach(ONE, ONE).table)):
            self.assertIs(is_table(ONE, ONE, value), False)
        for value in ((), ((FIRST, FIRST),), (FIRST, FIRST), (FIRST,)):
            self.assertIs(is_table(ONE, ONE, value), False)


class Papers(unittest.TestCase):
    def test_correct_ones(self):
        longer = (((("come", 0),), "on"), ((), "on"), ((), "end")) + LOAD
        for load in (LOAD, longer, parting_load(FEED, LATE), cut(FEED, LATE, longer)):
            self.assertIs(is_paper(FEED, LATE, ("parting", load)), True)
        self.assertIs(is_paper(ONE, CALM, ("alike", Reach(ONE, CALM).table)), True)

    def test_others(self):
        table = Reach(ONE, CALM).table
        for value in (*OTHERS, table, LOAD, ("alike",), ("alike", table, None), ["alike", table], ("parting", table),
                      ("Alike", table), (table, "alike"), ("alike", None), ("alike", table[1:]), ("alike", LOAD),
                      ("parting", ()), ("parting", LOAD), ("parting", None), (None, None), ("idle", table), FEED):
            self.assertIs(is_paper(ONE, CALM, value), False)
        for value in (("parting", LOAD[:2]), ("parting", LOAD + (((), "on"),)), ("parting", list(LOAD)),
                      ("alike", LOAD), ("alike", Reach(FEED, LATE).joints), ("alike", Reach(FEED, FEED).table),
                      ("Parting", LOAD), (None, LOAD), ("works", LOAD), (LOAD, LOAD), (["parting"], LOAD)):
            self.assertIs(is_paper(FEED, LATE, value), False)
        self.assertIs(is_paper(FEED, FEED, ("parting", LOAD)), False)

    def test_moves_to_a_parted_joint_stand_make_a_parting_load(self):
        for book, other in PAIRS:
            reach = Reach(book, other)
            for joint in reach.parted[:20]:
                load = load_of((*reach[joint], ("tick", "on")))
                self.assertTrue(is_paper(book, other, ("parting", load)))
                self.assertLessEqual(len(parting_load(book, other)), len(load))


class Quick(unittest.TestCase):
    def test_many_pairs_of_full_books(self):
        source = random.Random("full")
        for _ in range(30):
            book = some_full_book(source)
            key = source.choice(book.entries())
            other = book.with_entry(*key, source.choice(book.values_for(*key)))
            try:
                found = paper(book, other)
            except TooMany:
                continue
            self.assertTrue(is_paper(book, other, found))

    def test_numbers_are_ascending_as_stands_are(self):
        for book in (*BOOKS, some_book(random.Random("graph"))):
            stands, graph = stands_by_form(book), Graph(book)
            numbers = [number_of_stand(stand) for stand in stands]
            self.assertEqual(numbers, sorted(set(numbers)))
            self.assertEqual([graph.stand(number) for number in numbers], stands)
            self.assertEqual(number_of_stand(FIRST), FIRST_STAND)
            self.assertLessEqual(max(numbers), MASK)
            self.assertEqual(MASK, 2 ** BITS - 1)

    def test_rows_are_as_moves_of_stands(self):
        for book in (*BOOKS, some_book(random.Random("rows"))):
            graph = Graph(book)
            for stand in stands_by_form(book):
                number = number_of_stand(stand)
                worker, comings, timed = graph.row(number)
                self.assertEqual(worker, worker_at(book, stand))
                moves = graph.moves_at(number)
                self.assertEqual(tuple(sorted(moves)), moves_at(book, stand))
                self.assertEqual([graph.stand(near) for near in (*comings, *timed)],
                                 [stand_after(book, stand, move) for move in moves])


class Reading(unittest.TestCase):
    def test_stands_are_read_as_they_are(self):
        for book in (FEED, ONE, WIDE, some_book(random.Random("forms"))):
            forms = Forms(book)
            for stand in stands_by_form(book):
                self.assertEqual(forms.read_stand(stand) & MASK, number_of_stand(stand))
            kinds = {}
            for stand in stands_by_form(book):
                kinds.setdefault(forms.read_stand(stand) >> BITS, set()).add((kind(stand[0]), kind(stand[1])))
            self.assertTrue(all(len(found) == 1 for found in kinds.values()))
            self.assertEqual(len(kinds), 16)

    def test_what_is_no_stand_is_not_read(self):
        values = (True, False, None, 0, 1, 2, 3, -1, 5, FORTY, "0", "ready", "runs", "asleep", "away", (), (0,), [], {}, [0], FEED, ("away",))
        for book in (FEED, ONE, WIDE, Book(Level.plain(0), Level.plain(1, 2), ranks=(0,))):
            forms = Forms(book)
            for stand in stands_by_form(book)[::3]:
                changed = [(*stand[:at], value, *stand[at + 1:]) for at in range(3) for value in values]
                for task in (0, 1):
                    for at in range(len(stand[task])):
                        for value in values:
                            part = (*stand[task][:at], value, *stand[task][at + 1:])
                            changed.append((part, *stand[1:]) if task == 0 else (stand[0], part, stand[2]))
                    part = (*stand[task], None)
                    changed.append((part, *stand[1:]) if task == 0 else (stand[0], part, stand[2]))
                for value in (*changed, stand[:2], (*stand, None), list(stand), stand):
                    self.assertIs(forms.read_stand(value) is not None, is_stand(book, value), value)
            for value in values:
                self.assertIsNone(forms.read_stand(value))


class Bounds(unittest.TestCase):
    def test_the_pairs_that_are_counted(self):
        for book, other in (*PAIRS, *some_pairs(40, "sizes")):
            found, waiting = set(), [(("ready", *fresh(book, rank)), ("ready", *fresh(other, rank)))
                                     for rank in range(len(book.ranks))]
            while waiting:
                pair = waiting.pop()
                if pair not in found:
                    found.add(pair)
                    one, two = pair
                    both = [move for move in moves_alone(book, one) if move in moves_alone(other, two) and move != "lost"]
                    waiting += [(posture_after(book, one, move), posture_after(other, two, move)) for move in both]
                    waiting += [(left, right) for left in self.with_loss(book, one) for right in self.with_loss(other, two)]
            told = (book.told_alone(), other.told_alone())
            pairs = bounds._pairs_by_moves(*told)
            self.assertEqual({(told[0].part(one), told[1].part(two)) for one, two in pairs}, found)
            self.assertEqual(len(pairs), len(found))
            every = [*found, (("away",), ("away",)), (("ended",), ("ended",))]
            right = sum(self.joints_of(one, two) for one in every for two in every)
            self.assertGreaterEqual(bounds._most_of(pairs), right)
            self.assertGreaterEqual(bounds._most_by_form(*told), right)
            # It is told a little too high only where both run by one book and are ready by the other.
            ready = [pair for pair in found if {pair[0][0], pair[1][0]} == {"ready", "runs"}]
            self.assertLessEqual(bounds._most_of(pairs), right + 2 * len(ready) ** 2)

    def joints_of(self, one, two):
        """The number of the joint stands by their form of two tasks with these parts by both books."""
        many = 1
        for left, right in zip(one, two):
            if left[0] == right[0] == "runs":
                return 0
            many *= 2 if left[0] == right[0] == "ready" and left[1] == right[1] else 1
        return many

    def with_loss(self, book, posture):
        """A posture, and the one behind a loss, if this is possible."""
        lost = "lost" in moves_alone(book, posture)
        return [posture, posture_after(book, posture, "lost")] if lost else [posture]

    def test_no_two_books_have_more_joint_stands(self):
        for book, other in (*PAIRS, *some_pairs(60, "bounds")):
            many = len(Walk(Graph(book), Graph(other), 10 ** 6).before)
            self.assertFalse(are_at_most(book.told_alone(), other.told_alone(), many - 1))
            self.assertTrue(are_at_most(book.told_alone(), other.told_alone(), 10 ** 6))

    def test_a_walk_that_ends_early_tells_the_same(self):
        ended = 0
        for book, other in (*PAIRS, *some_pairs(60, "early")):
            for limit in (10 ** 6, 20000, 300, 100, 50):
                whole, part = [self.told(book, other, limit, whole) for whole in (True, False)]
                self.assertEqual(whole is None, part is None)
                if whole is not None:
                    self.assertEqual(bool(whole.apart), bool(part.apart))
                    self.assertEqual(len(whole.shortest_load() or ()), len(part.shortest_load() or ()))
                    self.assertEqual(whole.reached_table(), part.reached_table())
                    ended += len(part.before) < len(whole.before)
        self.assertGreater(ended, 50)

    def told(self, book, other, limit, whole):
        """A walk, or `None` if it has more joint stands than the limit."""
        try:
            return Walk(Graph(book), Graph(other), limit, whole=whole)
        except TooMany as error:
            self.assertEqual(error.limit, limit)
            return None


if __name__ == "__main__":
    unittest.main()
