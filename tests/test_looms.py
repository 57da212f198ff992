import copy
import random
import unittest
from fractions import Fraction
from itertools import combinations, product

from tests.helper import (
    AllParts, all_parts, changed, check_refused, odd_things, pieces, plain_chain, plain_level_loom, plain_loads,
    plain_reach, plain_thread, plain_web, some_measure, some_thread,
)
from weblayers.densest import densest
from weblayers.errors import NoNumber, NoSize, NoThread
from weblayers.layers import level_heights
from weblayers.looms import Loom
from weblayers.webs import share


class Book:
    """A loom, and what must be on it by what it told of each deed."""

    def __init__(self, test, many):
        self.test, self.many = test, many
        self.loom = Loom(many)
        self.laid = {}
        self.unused = 0
        self.check()

    def put(self, thread):
        ahead = plain_loads(self.many, self.laid.values())
        told = self.loom.put(thread)
        self.test.assertEqual((type(told), len(told)), (tuple, 3))
        number, place, chain = told
        self.test.assertIs(type(number), int)
        self.test.assertEqual(number, self.unused)
        self.test.assertIs(type(place), int)
        self.test.assertIn(place, thread)
        self.unused += 1
        self.laid[number] = (thread, place)
        self.test.assertTrue(plain_chain(self.laid, chain))
        if chain:
            self.test.assertEqual(chain[0][1], place)
            # Swaps only where they are needed.
            ahead_of_it = [row for at, row in self.laid.items() if at != number]
            for other in thread:
                self.test.assertFalse(plain_level_loom(self.many, ahead_of_it + [(thread, other)]))
        self.swap(chain)
        self.check_one_changed(ahead, 1)
        self.check()
        return told

    def take(self, number):
        ahead = plain_loads(self.many, self.laid.values())
        chain = self.loom.take(number)
        spot = self.laid.pop(number)[1]
        self.test.assertTrue(plain_chain(self.laid, chain))
        if chain:
            self.test.assertEqual(chain[-1][2], spot)
            self.test.assertFalse(plain_level_loom(self.many, list(self.laid.values())))
        self.swap(chain)
        self.check_one_changed(ahead, -1)
        self.check()
        return chain

    def swap(self, chain):
        for number, start, goal in chain:
            self.laid[number] = (self.laid[number][0], goal)

    def check_one_changed(self, ahead, by):
        behind = plain_loads(self.many, self.laid.values())
        differences = [other - one for one, other in zip(ahead, behind) if other != one]
        self.test.assertEqual(differences, [by])

    def check(self):
        """What the loom tells is what must be on it, and level."""
        laid = list(self.laid.values())
        loads = plain_loads(self.many, laid)
        expected = tuple((number, *self.laid[number]) for number in sorted(self.laid))
        self.test.assertEqual(self.loom.threads(), expected)
        self.test.assertEqual(self.loom.loads(), tuple(loads))
        self.test.assertTrue(plain_level_loom(self.many, laid))
        self.test.assertEqual(self.loom.thick(), tuple(sorted(plain_reach(laid, loads.index(max(loads))))))
        self.check_web([thread for thread, place in laid])

    def check_web(self, threads):
        web = self.loom.web()
        self.test.assertTrue(plain_web(web))
        self.test.assertEqual(web[0], (1,) * self.many)
        self.test.assertEqual(dict(web[1]), {thread: threads.count(thread) for thread in threads})

    def check_shares(self):
        """The greatest load and the heights, rounded, and the share of the thick part."""
        web, loads, thick = self.loom.web(), self.loom.loads(), self.loom.thick()
        top, bottom = share(web, densest(web))
        self.test.assertEqual(max(loads), -(-top // bottom))
        for load, (top, bottom) in zip(loads, level_heights(web)):
            self.test.assertIn(load, (top // bottom, -(-top // bottom)))
        self.test.assertGreater(Fraction(*share(web, thick)), max(loads) - 1)


def many_deeds(chance, book, deeds, takes=0.4):
    for deed in range(deeds):
        if book.laid and (chance.random() < takes or len(book.laid) == 30):
            book.take(chance.choice(sorted(book.laid)))
        else:
            book.put(some_thread(chance, book.many))


def loads_of_all_ways(many, threads):
    return {tuple(plain_loads(many, list(zip(threads, places)))) for places in product(*threads)}


def worth_of(measure, loads):
    """What loads are worth by a measure, each place at a cost of 1."""
    return sum(
        Fraction(*heavy) * max(0, (load - Fraction(*point)) if side == "above" else (Fraction(*point) - load))
        for load in loads for side, point, heavy in measure
    )


class Deeds(unittest.TestCase):
    def test_by_hand(self):
        loom = Loom(3)
        self.assertEqual(loom.put((0,)), (0, 0, ()))
        self.assertEqual(loom.put((0, 1)), (1, 1, ()))
        # Place 2 is the only one with no load, and a thread lies next to it.
        self.assertEqual(loom.put((1, 2)), (2, 2, ()))
        self.assertEqual(loom.loads(), (1, 1, 1))
        self.assertEqual(loom.threads(), ((0, (0,), 0), (1, (0, 1), 1), (2, (1, 2), 2)))
        self.assertEqual(loom.web(), ((1, 1, 1), (((0,), 1), ((0, 1), 1), ((1, 2), 1))))
        self.assertEqual(loom.thick(), (0,))

    def test_put_with_a_chain(self):
        book = Book(self, 4)
        for at, thread in enumerate(((3,), (2, 3), (1, 2))):
            self.assertEqual(book.put(thread), (at, 3 - at, ()))
        self.assertEqual(book.take(0), ())
        self.assertEqual(book.loom.loads(), (0, 1, 1, 0))
        # The only place with a load of 0 to which a chain leads is two swaps away.
        self.assertEqual(book.put((1,)), (3, 1, ((2, 1, 2), (1, 2, 3))))
        self.assertEqual(book.loom.threads(), ((1, (2, 3), 3), (2, (1, 2), 2), (3, (1,), 1)))

    def test_taken_off_with_a_chain(self):
        book = Book(self, 3)
        for at, (thread, place) in enumerate((((2,), 2), ((1, 2), 1), ((0, 1), 0), ((0,), 0))):
            self.assertEqual(book.put(thread), (at, place, ()))
        self.assertEqual(book.loom.loads(), (2, 1, 1))
        self.assertEqual(book.take(0), ((2, 0, 1), (1, 1, 2)))
        self.assertEqual(book.loom.threads(), ((1, (1, 2), 2), (2, (0, 1), 1), (3, (0,), 0)))
        self.assertEqual([book.take(number) for number in (2, 1, 3)], [(), (), ()])

    def test_numbers_rise_and_are_not_given_again(self):
        loom = Loom(2)
        for number in range(50):
            self.assertEqual(loom.put((0, 1))[0], number)
            if number % 3:
                loom.take(number)
        self.assertEqual([number for number, thread, place in loom.threads()], list(range(0, 50, 3)))
        for number in (48, 0, 21):
            loom.take(number)
        self.assertEqual(loom.put((0,))[0], 50)
        self.assertEqual([number for number, thread, place in loom.threads()][-2:], [45, 50])

    def test_without_threads(self):
        for many in range(1, 13):
            loom = Loom(many)
            empty = ((), (0,) * many, ((1,) * many, ()), (0,))
            self.assertEqual((loom.threads(), loom.loads(), loom.web(), loom.thick()), empty)
            loom.put((0,))
            self.assertEqual(loom.take(0), ())
            self.assertEqual((loom.threads(), loom.loads(), loom.web(), loom.thick()), empty)
            self.assertEqual(loom.put((many - 1,)), (1, many - 1, ()))

    def test_alike_threads_are_one_tie(self):
        book = Book(self, 5)
        for turn in range(10):
            book.put((1, 3))
            book.put((0, 1, 3, 4))
        book.put((1,))
        self.assertEqual(book.loom.web()[1], (((0, 1, 3, 4), 10), ((1,), 1), ((1, 3), 10)))
        self.assertEqual(sorted(book.loom.loads()), [0, 5, 5, 5, 6])
        book.check_shares()

    def test_the_first_of_the_greatest_loads_is_taken(self):
        book = Book(self, 6)
        for thread in ((5,), (4,), (4,), (2,), (1, 2), (1, 2, 3), (5,)):
            book.put(thread)
        self.assertEqual(book.loom.loads()[4:], (2, 2))
        # Place 4 comes ahead of place 5.
        self.assertEqual(book.loom.thick(), (4,))

    def test_small_looms_of_few_threads_in_all_orders(self):
        for many, size in ((1, 4), (2, 4), (3, 4)):
            for threads in product(all_parts(many), repeat=size):
                book = Book(self, many)
                for thread in threads:
                    book.put(thread)
                self.check_none_is_leveler(book.loom.loads(), loads_of_all_ways(many, threads))
                for number in random.Random(repr(threads)).sample(range(size), size):
                    book.take(number)

    def check_none_is_leveler(self, loads, ways):
        """No way has less worth by any measure: no so many greatest loads together are less."""
        self.assertIn(loads, ways)
        high = sorted(loads, reverse=True)
        for way in ways:
            other = sorted(way, reverse=True)
            for many in range(len(loads)):
                self.assertLessEqual(sum(high[:many]), sum(other[:many]))

    def test_against_all_ways_to_lay_the_threads(self):
        chance = random.Random(200)
        for turn in range(40):
            book = Book(self, chance.randint(2, 6))
            for deed in range(14):
                if book.laid and (chance.random() < 0.4 or len(book.laid) == 6):
                    book.take(chance.choice(sorted(book.laid)))
                else:
                    book.put(some_thread(chance, book.many))
                threads = [thread for thread, place in book.laid.values()]
                self.check_none_is_leveler(book.loom.loads(), loads_of_all_ways(book.many, threads))

    def test_no_way_has_less_worth(self):
        chance = random.Random(201)
        for turn in range(20):
            book = Book(self, chance.randint(2, 5))
            many_deeds(chance, book, 9, takes=0.3)
            ways = loads_of_all_ways(book.many, [thread for thread, place in book.laid.values()])
            for measure in [some_measure(chance, 12) for one in range(4)]:
                least = min(worth_of(measure, way) for way in ways)
                self.assertEqual(worth_of(measure, book.loom.loads()), least)

    def test_loads_are_heights_rounded(self):
        chance = random.Random(202)
        for turn in range(60):
            book = Book(self, chance.randint(1, 12))
            for part in range(4):
                many_deeds(chance, book, 8)
                book.check_shares()

    def test_the_greatest_load_against_all_parts(self):
        chance = random.Random(203)
        for turn in range(40):
            book = Book(self, chance.randint(1, 7))
            many_deeds(chance, book, chance.randint(1, 30), takes=0.2)
            top, bottom = AllParts(book.loom.web()).best()[0]
            self.assertEqual(max(book.loom.loads()), -(-top // bottom))

    def test_many_orders_of_the_same_threads(self):
        chance = random.Random(204)
        for turn in range(15):
            threads = [some_thread(chance, 8) for one in range(20)]
            told = set()
            for order in range(6):
                chance.shuffle(threads)
                book = Book(self, 8)
                for thread in threads:
                    book.put(thread)
                told.add((tuple(sorted(book.loom.loads())), book.loom.web()))
            self.assertEqual(len(told), 1)

    def test_the_most_threads_and_places(self):
        chance = random.Random(205)
        for threads in (
            [(0,)] * 30,
            [(0, 1)] * 15 + [(1, 2)] * 15,
            list(combinations(range(12), 4))[:30],
            list(combinations(range(12), 2))[::2][:30],
            [(place, place + 1) for place in range(11)] * 2 + [(0,)] * 8,
            [(0,)] * 15 + [(place, place + 1) for place in range(11)] + [(11,)] * 4,
        ):
            for order in (threads, threads[::-1], chance.sample(threads, 30)):
                book = Book(self, 12)
                for thread in order:
                    book.put(thread)
                self.assertEqual(len(book.loom.threads()), 30)
                check_refused(self, NoThread, book.loom.put, (0,))
                book.check()
                book.check_shares()
                for number in chance.sample(range(30), 30):
                    book.take(number)
                book.put((11,))

    def test_at_most_thirty_at_a_time(self):
        chance = random.Random(206)
        book = Book(self, 12)
        many_deeds(chance, book, 30, takes=0)
        many_deeds(chance, book, 200, takes=0.5)
        self.assertGreater(book.unused, 60)


class Looms(unittest.TestCase):
    def test_numbers_of_places(self):
        for many in range(-2, 20):
            if many in range(1, 13):
                self.assertEqual(Loom(many).loads(), (0,) * many)
            else:
                check_refused(self, NoSize, Loom, many)
        for thing in odd_things() + [(), (1,), [1], "1", Fraction(1), Fraction(1, 2)]:
            check_refused(self, NoSize, Loom, thing)

    def check_refused_changes_nothing(self, loom, kind, ask, *told):
        ahead = (loom.threads(), loom.loads(), loom.web(), loom.thick())
        check_refused(self, kind, ask, *told)
        self.assertEqual((loom.threads(), loom.loads(), loom.web(), loom.thick()), ahead)

    def test_what_is_no_thread(self):
        loom = Loom(6)
        loom.put((0, 1))
        loom.put((0, 1))
        bad = odd_things() + [
            0, 1, (), (6,), (-1,), (0, 6), (0, 0), (1, 0), (0, 1, 2, 3, 4), (0, 1, 1), (True,), (0, True), (False, 1),
            [0], [0, 1], "0", "01", ((0,),), (0, (1,)), (0, "1"), (0, None), (Fraction(1),), {0: 1}, (0, 1, 2, 3, 4, 5),
        ]
        bad += [thing for thing in changed((0, 2, 3), odd_things()) if not plain_thread(thing, 6)]
        for thing in bad:
            self.check_refused_changes_nothing(loom, NoThread, loom.put, thing)
        self.assertEqual(loom.put((0, 2, 3, 5))[0], 2)

    def test_what_is_no_place_of_a_small_loom(self):
        for many in range(1, 12):
            loom = Loom(many)
            self.check_refused_changes_nothing(loom, NoThread, loom.put, (many,))
            self.check_refused_changes_nothing(loom, NoThread, loom.put, (0, many))
            self.assertEqual(loom.put((many - 1,)), (0, many - 1, ()))

    def test_a_thirty_first(self):
        loom = Loom(3)
        for turn in range(30):
            loom.put((turn % 3,))
        for thing in ((0,), (0, 1, 2), (3,), None, []):
            self.check_refused_changes_nothing(loom, NoThread, loom.put, thing)
        loom.take(7)
        self.assertEqual(loom.put((2,))[0], 30)
        self.check_refused_changes_nothing(loom, NoThread, loom.put, (0,))

    def test_what_is_no_number(self):
        loom = Loom(3)
        for thing in odd_things() + [0, 1]:
            self.check_refused_changes_nothing(loom, NoNumber, loom.take, thing)
        for turn in range(4):
            loom.put((0, 1))
        loom.take(1)
        # True would be 1 and False 0, were they numbers.
        for thing in odd_things() + [1, 4, 5, -1, 30, "0", (0,), [0], True, False, Fraction(2), Fraction(0)]:
            self.check_refused_changes_nothing(loom, NoNumber, loom.take, thing)
        loom.take(0)
        self.check_refused_changes_nothing(loom, NoNumber, loom.take, 0)
        self.assertEqual(loom.put((0,))[0], 4)

    def test_two_side_by_side(self):
        chance = random.Random(207)
        for turn in range(10):
            one, other = Book(self, 4), Book(self, 7)
            for deed in range(25):
                many_deeds(chance, one, 1)
                many_deeds(chance, other, 1)
                one.check()
                other.check()

    def test_the_same_deeds_tell_the_same(self):
        chance = random.Random(208)
        threads = [some_thread(chance, 9) for one in range(30)]
        takes = chance.sample(range(30), 30)
        told = []
        for turn in range(2):
            loom = Loom(9)
            deeds = [loom.put(thread) for thread in threads]
            deeds += [(loom.threads(), loom.loads(), loom.web(), loom.thick())]
            told.append(deeds + [loom.take(number) for number in takes])
        self.assertEqual(*told)

    def test_only_tuples_and_whole_numbers_are_told(self):
        chance = random.Random(209)
        loom = Loom(12)
        told = [loom.put(some_thread(chance, 12)) for turn in range(30)]
        told += [loom.threads(), loom.loads(), loom.web(), loom.thick()]
        told += [loom.take(number) for number in range(25)] + [loom.threads()]
        for answer in told:
            self.assertLessEqual({type(one) for one in pieces(answer)}, {tuple, int})

    def test_what_was_told_stays_as_it_was(self):
        chance = random.Random(210)
        book = Book(self, 6)
        told = []
        for turn in range(40):
            many_deeds(chance, book, 1)
            told.append((book.loom.threads(), book.loom.loads(), book.loom.web(), book.loom.thick()))
            if turn == 20:
                kept = copy.deepcopy(told)
        self.assertEqual(told[:21], kept)

    def test_asking_changes_nothing(self):
        book = Book(self, 6)
        many_deeds(random.Random(211), book, 20)
        for turn in range(3):
            book.check()
            book.check_shares()


if __name__ == "__main__":
    unittest.main()
