"""Stage 7: class Processor."""

import random
import unittest

from tests.reference import Scheduler, some_book, some_load
from tests.samples import BOOKS, FEED, FORTY, FORTY_ONE, HUNDRED, LATE, LOAD, ONE, OTHERS, WIDE
from twoandabell.book.books import Book
from twoandabell.errors import InvalidBook, InvalidLoad, InvalidNumber, InvalidOperation, NothingToUndo, TooMany
from twoandabell.run.loads import chart, is_load, pictures
from twoandabell.run.processors import Processor
from twoandabell.run.queues import Queues

WORDS = ("on", "sleep", "way", "end", "bell")
WAITING_RANKS = (0,) * 20


def is_in(value, numbers):
    """Whether the value is one of some integers, booleans being none."""
    return type(value) is int and value in numbers


def all_of(processor):
    """Everything that a processor tells, what was undone too."""
    redone = processor.twin()
    redoable = []
    while True:
        try:
            redone.redo()
        except NothingToUndo:
            break
        redoable.append(redone.log[-1])
    return (
        processor.book, processor.picture, processor.runner, processor.next_one, processor.chart, processor.done,
        processor.log, len(processor), processor.queues(), [processor[task] for task in range(len(processor))],
        str(processor), tuple(redoable))


def with_comings(book, *ranks):
    processor = Processor(book)
    for rank in ranks:
        processor.come(rank)
    return processor


def call(processor, entry):
    """Do a call as the log tells it."""
    word, value = entry
    return {"come": processor.come, "wake": processor.wake_up, "tick": processor.tick}[word](value)


def at_random(source, book, many):
    """A processor behind so many calls."""
    processor = Processor(book)
    while len(processor.log) < many:
        step(source, processor)
    return processor


def step(source, processor):
    """A call of any kind that is possible."""
    asleep = [task for task in range(len(processor)) if processor[task][0] == "asleep"]
    if asleep and source.random() < 0.4:
        return processor.wake_up(source.choice(asleep))
    if source.random() < 0.3 and len(processor) < 12:
        return processor.come(source.randrange(len(processor.book.ranks)))
    return processor.tick(source.choice(("on", "on", "on", *WORDS)))


class Calls(unittest.TestCase):
    def test_example(self):
        processor = Processor(FEED)
        self.assertEqual(
            [processor.come(1), processor.come(1), processor.tick("on"), processor.come(0), processor.tick("end"),
             processor[0], processor.next_one],
            [0, 1, 0, 2, 2, ("ready", 1, 1), 0])
        self.assertEqual(
            [processor.chart, processor.undo(many=2), processor.during(lambda same: same.tick("sleep")),
             processor.runner, str(processor)],
            [(0, 2), 3, 0, 0, "processor with 2 tasks, 1 ready"])

    def test_a_new_one(self):
        for book in BOOKS:
            processor = Processor(book)
            self.assertEqual(processor.book, book)
            self.assertEqual((processor.picture, processor.chart, processor.done, processor.log), ((), (), (), ()))
            self.assertEqual((processor.runner, processor.next_one, len(processor)), (None, None, 0))
            self.assertEqual(processor.queues(), Queues(len(book)))
            self.assertEqual(str(processor), "processor with 0 tasks, 0 ready")

    def test_no_books(self):
        for book in (*OTHERS, *FEED.levels, FEED.levels, LOAD, Processor(FEED)):
            with self.assertRaises(InvalidBook):
                Processor(book)

    def test_comings_and_wakings(self):
        processor = Processor(WIDE)
        self.assertEqual([processor.come(rank) for rank in (2, 0, 1, 0)], [0, 1, 2, 3])
        self.assertEqual(processor.picture, (("ready", 1, 3), ("ready", 0, 2), ("ready", 2, None), ("ready", 0, 2)))
        self.assertEqual(processor.queues().tasks(), (1, 3, 0, 2))
        self.assertEqual(processor.tick("sleep"), 1)
        self.assertEqual(processor[1], ("asleep", 0, 1))
        self.assertIsNone(processor.wake_up(1))
        self.assertEqual(processor[1], ("ready", 0, 1))
        self.assertEqual(processor.queues()[0], (1, 3))
        self.assertEqual(processor.log, (("come", 2), ("come", 0), ("come", 1), ("come", 0), ("tick", "sleep"),
                                         ("wake", 1)))

    def test_each_word(self):
        for word, part in (("on", ("runs", 1, 1)), ("sleep", ("asleep", 1, 1)), ("way", ("ready", 1, 2)),
                           ("end", ("ended",)), ("bell", ("ready", 1, 2))):
            processor = with_comings(FEED, 1)
            self.assertEqual(processor.tick(word), "bell" if word == "bell" else 0)
            self.assertEqual(processor.picture, (part,))
            self.assertEqual(processor.log[-1], ("tick", word))
            self.assertEqual(processor.runner, 0 if word == "on" else None)
            self.assertIs(0 in processor, word != "end")
            self.assertEqual(processor.next_one, None if word in ("sleep", "end") else 0)
        idle = Processor(FEED)
        self.assertEqual([idle.tick(word) for word in WORDS], [None, None, None, None, "bell"])
        self.assertEqual(idle.chart, (None, None, None, None, "bell"))

    def test_bells(self):
        processor = with_comings(FEED, 1, 1)
        processor.tick("on")
        self.assertEqual(processor.bell(), "bell")
        self.assertEqual(processor.log[-1], ("tick", "bell"))
        self.assertEqual((processor.runner, processor[0], processor.next_one), (None, ("ready", 1, 1), 0))
        late = with_comings(LATE, 1, 1)
        late.tick("on")
        late.bell()
        self.assertEqual((late.next_one, late.queues()[1]), (1, (1, 0)))

    def test_who_is_next(self):
        # A ready task of a better level takes the running one away, where `takes` tells so.
        processor = with_comings(FEED, 1)
        processor.tick("on")
        self.assertEqual((processor.runner, processor.next_one), (0, 0))
        processor.come(1)
        self.assertEqual((processor.runner, processor.next_one), (0, 0))
        processor.come(0)
        self.assertEqual((processor.runner, processor.next_one), (0, 2))
        staying = with_comings(FEED.with_entry("takes", 1, 0), 1)
        staying.tick("on")
        staying.come(0)
        self.assertEqual((staying.next_one, staying.tick("on")), (0, 0))

    def test_next_one_is_who_works_in_a_tick(self):
        source = random.Random("next")
        for _ in range(150):
            processor = at_random(source, some_book(source), source.randint(0, 25))
            before = processor.next_one
            self.assertEqual(processor.twin().tick(source.choice(WORDS[:4])), before)

    def test_the_same_as_charts_and_pictures(self):
        source = random.Random("processor")
        for _ in range(150):
            book = some_book(source)
            load = some_load(source, book, source.randint(0, 30), 8)
            charted, shown = chart(book, load), list(pictures(book, load))
            at_once, in_parts = Processor(book), Processor(book)
            self.assertEqual(at_once.do(load), charted)
            for index, (comings, word) in enumerate(load):
                for entry in comings:
                    call(in_parts, entry)
                self.assertEqual(in_parts.done, load[:index])
                self.assertEqual(in_parts.tick(word), charted[index])
                self.assertEqual(in_parts.picture, shown[index])
            cut = source.randint(0, len(load))
            halves = Processor(book)
            self.assertEqual(halves.do(load[:cut]) + halves.do(load[cut:]), charted)
            for processor in (at_once, in_parts, halves):
                self.assertEqual((processor.chart, processor.done), (charted, load))
                self.assertEqual(processor.picture, shown[-1] if shown else ())
                self.assertEqual(processor.log, tuple(
                    entry for comings, word in load for entry in (*comings, ("tick", word))))
                self.assertEqual(all_of(processor), all_of(at_once))

    def test_queues_as_by_the_rules(self):
        source = random.Random("orders")
        for _ in range(150):
            book = some_book(source)
            load = some_load(source, book, source.randint(1, 25), 8)
            scheduler, processor = Scheduler(book), Processor(book)
            for comings, word in load:
                scheduler.tick(comings, word)
                processor.do(((comings, word),))
                queues = processor.queues()
                self.assertEqual([queues[level] for level in range(len(book))],
                                 [tuple(scheduler.rows[level]) for level in range(len(book))])
                self.assertEqual(processor.runner, scheduler.running())
                with self.assertRaises(InvalidNumber):
                    queues[len(book)]

    def test_comings_that_wait_are_not_done(self):
        processor = with_comings(FEED, 1)
        self.assertEqual((processor.done, processor.chart, len(processor)), ((), (), 1))
        processor.tick("on")
        processor.come(0)
        self.assertEqual(processor.done, (((("come", 1),), "on"),))
        # They are ahead of those of the first tick of a load.
        self.assertEqual(processor.do((((("come", 1),), "sleep"), ((("wake", 1),), "end"))), (1, 1))
        self.assertEqual(processor.done[1:], (((("come", 0), ("come", 1)), "sleep"), ((("wake", 1),), "end")))
        self.assertEqual(processor.do(()), ())

    def test_loads_number_tasks_by_the_processor(self):
        processor = with_comings(FEED, 0, 0)
        processor.do((((), "sleep"), ((), "sleep")))
        self.assertEqual(processor.do((((("wake", 1), ("come", 0)), "end"), ((), "end"))), (1, 2))
        self.assertEqual(processor.picture, (("asleep", 0, 0), ("ended",), ("ended",)))


class Objects(unittest.TestCase):
    def test_items_and_members(self):
        processor = with_comings(FEED, 1, 0, 0)
        processor.tick("end")
        for value in (*OTHERS, 3, FEED, processor, (0,)):
            self.assertIs(value in processor, is_in(value, (0, 2)))
            if is_in(value, (0, 1, 2)):
                self.assertEqual(processor[value], processor.picture[value])
                continue
            with self.assertRaises(InvalidNumber) as caught:
                processor[value]
            self.assertIs(caught.exception.number, value)
        self.assertEqual((processor[1], len(processor)), (("ended",), 3))

    def test_no_iteration(self):
        with self.assertRaises(TypeError):
            list(with_comings(FEED, 0))

    def test_texts(self):
        processor = with_comings(FEED, 0, 0, 1)
        self.assertEqual(str(processor), "processor with 3 tasks, 3 ready")
        processor.tick("end")
        self.assertEqual(str(processor), "processor with 3 tasks, 2 ready")
        self.assertEqual(str(with_comings(FEED, 0)), "processor with 1 tasks, 1 ready")

    def test_plus(self):
        processor = same = Processor(FEED)
        processor += 1
        processor += 0
        self.assertIs(processor, same)
        self.assertEqual(processor.log, (("come", 1), ("come", 0)))
        with self.assertRaises(InvalidNumber) as caught:
            processor += 2
        self.assertEqual((caught.exception.number, len(same)), (2, 2))

    def test_equality(self):
        one, two = with_comings(FEED, 1, 1), with_comings(FEED, 1, 1)
        self.assertTrue(one == two)
        self.assertFalse(one != two)
        # What was done on the way plays no role, but pictures, orders and books do.
        one.bell()
        self.assertTrue(one == two)
        two.tick("on")
        self.assertFalse(one == two)
        self.assertFalse(Processor(FEED) == Processor(LATE))
        self.assertTrue(Processor(FEED) == Processor(Book(*FEED.levels, ranks=(0, 1))))
        for value in (*OTHERS, FEED, one.picture, one.queues(), Processor(ONE)):
            self.assertFalse(one == value)
            self.assertTrue(one != value)

    def test_equal_orders_with_other_pictures(self):
        made = []
        for word in ("sleep", "end", "on"):
            processor = with_comings(FEED, 1, 1)
            processor.tick(word)
            self.assertEqual(processor.queues().tasks(), (1,))
            made.append(processor)
        for at, one in enumerate(made):
            self.assertEqual([one == other for other in made], [at == index for index in range(3)])

    def test_equal_pictures_in_another_order(self):
        book = FEED.with_entry("wake", 0, (0, "front", "new"))
        load = (((("come", 0), ("come", 0)), "sleep"), ((), "sleep"))
        pair = []
        for order in ((0, 1), (1, 0)):
            processor = Processor(book)
            processor.do(load)
            for task in order:
                processor.wake_up(task)
            pair.append(processor)
        self.assertEqual(pair[0].picture, pair[1].picture)
        self.assertFalse(pair[0] == pair[1])
        self.assertTrue(pair[0] == pair[0].twin())

    def test_what_is_returned_gives_no_access(self):
        processor = with_comings(FEED, 0, 1)
        before = all_of(processor)
        queues = processor.queues()
        queues.pick()
        queues.enter(9, 0, "front")
        self.assertEqual(all_of(processor), before)
        for name in ("book", "picture", "runner", "next_one", "chart", "done", "log"):
            with self.assertRaises(AttributeError):
                setattr(processor, name, None)


class Errors(unittest.TestCase):
    def setUp(self):
        self.processor = with_comings(FEED, 1, 0, 0)
        self.processor.do((((), "sleep"), ((), "end"), ((), "on")))
        self.processor.come(1)
        self.processor.undo()
        self.before = all_of(self.processor)

    def assert_refused(self, error, function, *values):
        with self.assertRaises(error) as caught:
            function(*values)
        self.assertEqual(all_of(self.processor), self.before)
        return caught.exception

    def test_comings(self):
        for rank in (*OTHERS, FEED, ("come", 0)):
            if not is_in(rank, (0, 1)):
                error = self.assert_refused(InvalidNumber, self.processor.come, rank)
                self.assertIs(error.number, rank)

    def test_wakings(self):
        # Task 0 runs, 1 is asleep, 2 has ended.
        self.assertEqual([part[0] for part in self.processor.picture], ["runs", "asleep", "ended"])
        for task in (*OTHERS, FEED, 3, FORTY, FORTY_ONE):
            if not is_in(task, (1,)):
                self.assert_refused(InvalidOperation, self.processor.wake_up, task)
        self.processor.wake_up(1)
        with self.assertRaises(InvalidOperation):
            self.processor.wake_up(1)

    def test_ticks(self):
        for word in (*OTHERS, FEED, "On", "lost", "wake", "come", ("on",), ["on"]):
            self.assert_refused(InvalidOperation, self.processor.tick, word)

    def test_loads(self):
        for load in (*[value for value in OTHERS if not is_load(value)], LOAD[0], [LOAD], (((), "off"),), FEED):
            self.assert_refused(InvalidLoad, self.processor.do, load)
        good = (((("come", 0),), "on"), ((("wake", 1),), "bell"))
        error = self.assert_refused(InvalidNumber, self.processor.do, (*good, (((("come", 2)),), "on")))
        self.assertEqual(error.number, 2)
        for task in (0, 1, 2, 3, 4, FORTY):
            self.assert_refused(InvalidOperation, self.processor.do, (*good, ((("come", 0), ("wake", task)), "on")))
        # The first error in the order of the ticks.
        self.assert_refused(InvalidOperation, self.processor.do, (((("wake", 0), ("come", 7)), "on"),))
        self.assert_refused(InvalidNumber, self.processor.do, (((("come", 7), ("wake", 0)), "on"),))

    def test_undo_and_redo(self):
        for many in (*OTHERS, FEED):
            if not is_in(many, range(FORTY_ONE)):
                for function in (self.processor.undo, self.processor.redo):
                    error = self.assert_refused(InvalidNumber, lambda: function(many=many))
                    self.assertIs(error.number, many)
        for many in (7, 8, FORTY):
            error = self.assert_refused(NothingToUndo, lambda: self.processor.undo(many=many))
            self.assertEqual(error.many, many)
        for many in (2, 3, FORTY):
            error = self.assert_refused(NothingToUndo, lambda: self.processor.redo(many=many))
            self.assertEqual(error.many, many)
        for function in (self.processor.undo, self.processor.redo):
            with self.assertRaises(TypeError):
                function(1)


class Limits(unittest.TestCase):
    def test_sixty_tasks(self):
        processor = Processor(FEED)
        for _ in range(3):
            for _ in range(20):
                processor.come(0)
            processor.tick("end")
        self.assertEqual(len(processor), 60)
        before = all_of(processor)
        for function in (lambda: processor.come(0), lambda: processor.do((((("come", 0),), "on"),))):
            with self.assertRaises(TooMany) as caught:
                function()
            self.assertEqual(caught.exception.limit, 60)
        with self.assertRaises(InvalidNumber):
            processor.come(2)
        self.assertEqual(all_of(processor), before)

    def test_twenty_comings_that_wait(self):
        processor = with_comings(FEED, *WAITING_RANKS[:-1])
        self.assertEqual(processor.come(0), 19)
        with self.assertRaises(TooMany) as caught:
            processor.come(0)
        self.assertEqual(caught.exception.limit, 20)
        with self.assertRaises(InvalidNumber):
            processor.come(9)
        processor.tick("sleep")
        self.assertEqual(processor.come(0), 20)

    def test_wakings_wait_too(self):
        processor = with_comings(FEED, 0, 0)
        processor.do((((), "sleep"), ((), "sleep")))
        for _ in range(19):
            processor.come(1)
        processor.wake_up(0)
        before = all_of(processor)
        with self.assertRaises(TooMany) as caught:
            processor.wake_up(1)
        self.assertEqual(caught.exception.limit, 20)
        # A task that is not asleep comes ahead of this.
        with self.assertRaises(InvalidOperation):
            processor.wake_up(0)
        with self.assertRaises(TooMany):
            processor.do((((("wake", 1),), "on"),))
        self.assertEqual(all_of(processor), before)
        processor.bell()
        processor.wake_up(1)

    def test_sixty_come_ahead_of_twenty(self):
        processor = Processor(FEED)
        for _ in range(2):
            processor.do(((tuple(("come", 0) for _ in range(20)), "on"),))
        for _ in range(20):
            processor.come(0)
        with self.assertRaises(TooMany) as caught:
            processor.come(0)
        self.assertEqual(caught.exception.limit, 60)

    def test_four_hundred_ticks(self):
        processor = with_comings(FEED, 1)
        processor.do((((), "on"),) * 398)
        self.assertEqual(processor.tick("sleep"), 0)
        self.assertEqual(processor.tick("bell"), "bell")
        self.assertEqual((len(processor.chart), len(processor.log)), (400, 401))
        before = all_of(processor)
        for function in (lambda: processor.tick("on"), processor.bell, lambda: processor.do((((), "on"),))):
            with self.assertRaises(TooMany) as caught:
                function()
            self.assertEqual(caught.exception.limit, 400)
        with self.assertRaises(InvalidOperation):
            processor.tick("off")
        self.assertEqual(all_of(processor), before)
        # Comings are still possible, and a tick is again behind an undo.
        self.assertEqual(processor.come(1), 1)
        processor.undo(many=2)
        self.assertEqual(processor.tick("on"), None)

    def test_a_load_that_goes_beyond(self):
        processor = Processor(FEED)
        processor.do((((), "on"),))
        self.assertEqual(len(processor.do((((), "on"),) * 399)), 399)
        other = Processor(FEED)
        other.do((((), "on"),))
        with self.assertRaises(TooMany) as caught:
            other.do((((), "on"),) * 400)
        self.assertEqual((caught.exception.limit, other.chart), (400, (None,)))

    def test_a_long_log(self):
        # In each tick twenty tasks that are asleep wake, and nothing takes long.
        processor = with_comings(ONE, *WAITING_RANKS)
        for _ in range(20):
            processor.tick("sleep")
        for _ in range(19):
            for task in range(20):
                processor.wake_up(task)
            for _ in range(20):
                processor.tick("sleep")
        self.assertEqual((len(processor.chart), len(processor.log)), (400, 800))
        length = 800
        while length:
            length = processor.undo()
        self.assertEqual(processor.redo(many=800), 800)


class Undoing(unittest.TestCase):
    def test_every_number_of_steps(self):
        source = random.Random("undo")
        for _ in range(12):
            book = some_book(source)
            processor = at_random(source, book, 14)
            log, whole = processor.log, all_of(processor)
            states = [all_of(self.behind(book, log[:many])) for many in range(len(log) + 1)]
            for many in range(len(log) + 1):
                self.assertEqual(processor.undo(many=many), len(log) - many)
                self.assertEqual(all_of(processor)[:-1], states[-1 - many][:-1])
                self.assertEqual(all_of(processor)[-1], log[len(log) - many:])
                for again in range(many + 1):
                    self.assertEqual(processor.redo(many=again), len(log) - many + again)
                    self.assertEqual(all_of(processor)[:-1], states[len(log) - many + again][:-1])
                    self.assertEqual(processor.undo(many=again), len(log) - many)
                self.assertEqual(processor.redo(many=many), len(log))
                self.assertEqual(all_of(processor), whole)

    def behind(self, book, log):
        processor = Processor(book)
        for entry in log:
            call(processor, entry)
        return processor

    def test_one_step_is_the_default(self):
        processor = with_comings(FEED, 0, 1)
        self.assertEqual((processor.undo(), processor.undo(), processor.redo(), processor.log), (1, 0, 1, (("come", 0),)))
        self.assertEqual(processor.redo(), 2)
        with self.assertRaises(NothingToUndo) as caught:
            processor.redo()
        self.assertEqual(caught.exception.many, 1)
        self.assertEqual((processor.undo(many=0), processor.redo(many=0)), (2, 2))

    def test_a_further_call_forgets_what_was_undone(self):
        for further in (lambda one: one.come(0), lambda one: one.tick("bell"), lambda one: one.wake_up(0),
                        lambda one: one.do((((), "on"),)), lambda one: one.__iadd__(0)):
            processor = with_comings(FEED, 0)
            processor.tick("sleep")
            processor.come(1)
            processor.tick("on")
            processor.undo(many=2)
            further(processor)
            with self.assertRaises(NothingToUndo):
                processor.redo()
            self.assertEqual(processor.log[:2], (("come", 0), ("tick", "sleep")))

    def test_what_does_not_enter_the_log_forgets_nothing(self):
        processor = with_comings(FEED, 0, 1)
        processor.undo()
        processor.do(())
        for wrong in (lambda: processor.come(9), lambda: processor.tick("off"), lambda: processor.wake_up(0),
                      lambda: processor.do((((("come", 0),), "on"), ((("wake", 0),), "on")))):
            with self.assertRaises((InvalidNumber, InvalidOperation)):
                wrong()
        processor.during(lambda same: same.come(0))
        processor.undo(many=0)
        self.assertEqual((processor.redo(), processor.log), (2, (("come", 0), ("come", 1))))


class Trials(unittest.TestCase):
    def setUp(self):
        self.processor = with_comings(FEED, 1, 0)
        self.processor.do((((), "sleep"), ((), "on")))
        self.processor.come(1)
        self.processor.undo(many=2)
        self.before = all_of(self.processor)

    def change(self, processor):
        processor.redo()
        processor.tick("bell")
        processor += 0
        processor.undo(many=3)
        processor.come(1)

    def test_behind_a_block(self):
        with self.processor.trial() as same:
            self.assertIs(same, self.processor)
            self.change(same)
            self.assertNotEqual(all_of(same), self.before)
        self.assertEqual(all_of(self.processor), self.before)

    def test_behind_an_error(self):
        for error in (KeyError, InvalidNumber, StopIteration):
            with self.assertRaises(error):
                with self.processor.trial() as same:
                    self.change(same)
                    raise error(1)
            self.assertEqual(all_of(self.processor), self.before)

    def test_behind_a_return(self):
        def told():
            with self.processor.trial() as same:
                self.change(same)
                return len(same)

        self.assertEqual(told(), 3)
        self.assertEqual(all_of(self.processor), self.before)

    def test_blocks_in_one_another(self):
        for trials in ([self.processor.trial(), self.processor.trial()], [self.processor.trial()] * 2):
            with trials[0] as same:
                self.change(same)
                inside = all_of(same)
                with trials[1] as again:
                    again.undo(many=2)
                    again.tick("bell")
                self.assertEqual(all_of(same), inside)
            self.assertEqual(all_of(self.processor), self.before)

    def test_a_block_begins_where_it_is_entered(self):
        trial = self.processor.trial()
        self.change(self.processor)
        behind = all_of(self.processor)
        for _ in range(2):
            with trial as same:
                same.tick("on")
            self.assertEqual(all_of(self.processor), behind)

    def test_during(self):
        self.assertEqual(self.processor.during(lambda same: (same.come(0), same.tick("end"), same.log[-1])),
                         (2, 2, ("tick", "end")))
        self.assertIsNone(self.processor.during(self.change))
        self.assertIs(self.processor.during(lambda same: same), self.processor)
        self.assertEqual(all_of(self.processor), self.before)
        with self.assertRaises(InvalidNumber):
            self.processor.during(lambda same: (same.tick("on"), same.come(7)))
        self.assertEqual(all_of(self.processor), self.before)

    def test_twins(self):
        twin = self.processor.twin()
        self.assertTrue(twin == self.processor)
        self.assertEqual(all_of(twin), self.before)
        self.change(twin)
        self.assertEqual(all_of(self.processor), self.before)
        other = self.processor.twin()
        self.processor.redo(many=2)
        self.processor.tick("end")
        self.assertEqual(all_of(other), self.before)
        self.assertEqual(other.redo(many=2), len(self.before[6]) + 2)

    def test_a_twin_in_a_trial_goes_on(self):
        with self.processor.trial() as same:
            self.change(same)
            twin = same.twin()
            inside = all_of(same)
        self.assertEqual(all_of(twin), inside)
        self.assertEqual(all_of(self.processor), self.before)


if __name__ == "__main__":
    unittest.main()
