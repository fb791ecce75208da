"""Books: what is written, read, forgotten and spread, and how many must be read (0.2 (g), 6.1, 6.2)."""

import itertools
import random
import unittest

from ringkeep.books import Book, reads_needed
from ringkeep.errors import NoHand, NoKey
from tests.walks import WalkedBook, hands_met, large_rings, small_rings, spots_of

KNOWN = (4, (0, 3, 5, 9, 14))
MIDDLE = [ring for ring in large_rings() if ring[0] == 4]
REFUSALS = {"NoHand": NoHand, "NoKey": NoKey}


def walked_holders(ring, key, copies):
    return tuple(hands_met(ring, key)[:copies])


def kept_of(book, ring, copies, key):
    """What each holder keeps of a key, None where it keeps nothing of it."""
    kept = {}
    for hand in walked_holders(ring, key, copies):
        try:
            kept[hand] = book.read(key, (hand,))
        except NoKey:
            kept[hand] = None
    return kept


def book_state(book, ring, copies):
    return [kept_of(book, ring, copies, key) for key in range(spots_of(ring))]


def assert_refused(test, refusal, act, given):
    with test.assertRaises(refusal) as caught:
        act(*given)
    test.assertIs(type(caught.exception), refusal)


class New(unittest.TestCase):
    def test_nothing_is_written(self):
        for ring in small_rings() + MIDDLE:
            for copies in range(1, 7):
                book = Book(ring, copies)
                for key in range(spots_of(ring)):
                    own = walked_holders(ring, key, copies)
                    assert_refused(self, NoKey, book.read, (key, own))
                    assert_refused(self, NoKey, book.read, (key, own[-1:]))
                    assert_refused(self, NoKey, book.spread, (key,))
                self.assertEqual(book.write(0, 5, walked_holders(ring, 0, copies)), 1)

    def test_two_books_have_nothing_in_common(self):
        one, other = Book(KNOWN, 2), Book(KNOWN, 2)
        one.write(6, 60, (9, 14))
        assert_refused(self, NoKey, other.read, (6, (9, 14)))
        self.assertEqual(other.write(6, 61, (9,)), 1)
        self.assertEqual(one.read(6, (9,)), (1, 60))


class WriteAndRead(unittest.TestCase):
    def test_known(self):
        book = Book(KNOWN, 3)
        self.assertEqual(book.write(6, 60, (9, 14)), 1)
        self.assertEqual(book.write(6, 61, (0,)), 2)
        self.assertEqual(book.write(7, 70, (14,)), 1)
        self.assertEqual(book.write(6, 62, (14,)), 3)
        self.assertEqual(kept_of(book, KNOWN, 3, 6), {9: (1, 60), 14: (3, 62), 0: (2, 61)})
        self.assertEqual(kept_of(book, KNOWN, 3, 7), {9: None, 14: (1, 70), 0: None})
        self.assertEqual(book.read(6, (9, 14)), (3, 62))
        self.assertEqual(book.read(6, (0, 9)), (2, 61))
        self.assertEqual(book.read(7, (9, 14, 0)), (1, 70))
        assert_refused(self, NoKey, book.read, (7, (9, 0)))

    def test_the_number_is_of_the_key_alone(self):
        book = Book(KNOWN, 2)
        told = [book.write(key, 0, walked_holders(KNOWN, key, 2)[:1]) for key in (1, 2, 1, 1, 15, 2, 1, 9, 15)]
        self.assertEqual(told, [1, 1, 2, 3, 1, 2, 4, 1, 2])

    def test_each_of_some_keeps_it_and_the_others_what_they_had(self):
        for ring in small_rings()[::5] + MIDDLE:
            for copies in range(1, 7):
                for key in range(0, spots_of(ring), 3):
                    own = walked_holders(ring, key, copies)
                    book = Book(ring, copies)
                    book.write(key, -1, own[::2])
                    book.write((key + 1) % spots_of(ring), 7, walked_holders(ring, (key + 1) % spots_of(ring), copies))
                    for many in range(1, len(own) + 1):
                        before = book_state(book, ring, copies)
                        some = own[len(own) - many:][::-1]
                        self.assertEqual(book.write(key, many, some), many + 1)
                        before[key].update({hand: (many + 1, many) for hand in some})
                        self.assertEqual(book_state(book, ring, copies), before)

    def test_the_greatest_number_decides_not_the_value_nor_the_order(self):
        for values in itertools.permutations((-9, 0, 9)):
            book = Book(KNOWN, 3)
            for hand, value in zip((9, 14, 0), values):
                book.write(6, value, (hand,))
            for some in itertools.permutations((9, 14, 0)):
                for many in (1, 2, 3):
                    last = max(some[:many], key=(9, 14, 0).index)
                    place = (9, 14, 0).index(last)
                    self.assertEqual(book.read(6, some[:many]), (place + 1, values[place]))

    def test_values_are_any_whole_numbers(self):
        book = Book(KNOWN, 1)
        for number, value in enumerate((0, -1, 10 ** 90, 0), start=1):
            self.assertEqual(book.write(5, value, (5,)), number)
            self.assertEqual(book.read(5, (5,)), (number, value))

    def test_fewer_hands_than_copies(self):
        ring = (3, (1, 6))
        for copies in (2, 3, 6, 9):
            book = Book(ring, copies)
            self.assertEqual(book.write(7, 1, (6, 1)), 1)
            self.assertEqual(kept_of(book, ring, copies, 7), {1: (1, 1), 6: (1, 1)})

    def test_reading_changes_nothing(self):
        book = Book(KNOWN, 3)
        book.write(6, 60, (9,))
        before = book_state(book, KNOWN, 3)
        for _ in range(3):
            book.read(6, (9, 14, 0))
            self.assertEqual(book_state(book, KNOWN, 3), before)
        self.assertEqual(book.write(6, 61, (14,)), 2)

    def test_none_of_them(self):
        # One or more are told of; of none nothing is refused that is not told.
        book = Book(KNOWN, 2)
        self.assertEqual(book.write(6, 60, ()), 1)
        assert_refused(self, NoKey, book.read, (6, (9, 14)))
        self.assertEqual(book.write(6, 61, (9,)), 2)
        assert_refused(self, NoKey, book.read, (6, ()))


class Refused(unittest.TestCase):
    def wrong_rows(self, ring, key, copies):
        own = walked_holders(ring, key, copies)
        for wrong in list(range(-1, spots_of(ring) + 1)) + [own[0] + spots_of(ring), own[0] - spots_of(ring)]:
            if wrong not in own:
                for row in ((wrong,), (wrong,) + own, own + (wrong,), own[:1] + (wrong,)):
                    yield row

    def test_no_hand_changes_nothing_not_the_number_either(self):
        for copies in (1, 2, 3):
            book = Book(KNOWN, copies)
            for key in (6, 7):
                book.write(key, key, walked_holders(KNOWN, key, copies)[:1])
            before = book_state(book, KNOWN, copies)
            for key in (6, 7, 15):
                for row in self.wrong_rows(KNOWN, key, copies):
                    assert_refused(self, NoHand, book.write, (key, 99, row))
                    # Also of a key that nobody keeps: NoHand ahead of NoKey.
                    assert_refused(self, NoHand, book.read, (key, row))
                    self.assertEqual(book_state(book, KNOWN, copies), before)
            for key, number in ((6, 2), (7, 2), (15, 1)):
                self.assertEqual(book.write(key, 1, walked_holders(KNOWN, key, copies)), number)

    def test_no_hand_of_forget(self):
        book = Book(KNOWN, 2)
        book.write(6, 60, (9, 14))
        before = book_state(book, KNOWN, 2)
        for spot in (1, 2, 4, 15, -1, 16, 25):
            assert_refused(self, NoHand, book.forget, (spot,))
            self.assertEqual(book_state(book, KNOWN, 2), before)

    def test_no_key_of_spread_changes_nothing(self):
        book = Book(KNOWN, 2)
        book.write(6, 60, (9,))
        book.write(7, 70, (9,))
        book.forget(9)
        book.write(4, 40, (9,))
        before = book_state(book, KNOWN, 2)
        for key in (6, 7, 5, 0):
            assert_refused(self, NoKey, book.spread, (key,))
            self.assertEqual(book_state(book, KNOWN, 2), before)
        self.assertEqual(book.write(6, 61, (14,)), 2)


class ForgetAndSpread(unittest.TestCase):
    def test_forget_is_of_every_key_and_of_that_hand_alone(self):
        for ring in small_rings()[::5] + MIDDLE:
            for copies in (1, 2, 3, 6):
                book = Book(ring, copies)
                for key in range(spots_of(ring)):
                    book.write(key, key, walked_holders(ring, key, copies))
                for hand in ring[1][::2]:
                    wanted = book_state(book, ring, copies)
                    for kept in wanted:
                        kept.update({hand: None} if hand in kept else {})
                    self.assertIsNone(book.forget(hand))
                    self.assertEqual(book_state(book, ring, copies), wanted)
                    self.assertIsNone(book.forget(hand))
                    self.assertEqual(book_state(book, ring, copies), wanted)

    def test_spread_is_to_all_holders_of_that_key_alone(self):
        for ring in small_rings()[::5] + MIDDLE:
            for copies in (1, 2, 3, 6):
                book = Book(ring, copies)
                for key in range(spots_of(ring)):
                    for hand in walked_holders(ring, key, copies)[1:]:
                        book.write(key, -hand, (hand,))
                    book.write(key, 1000, walked_holders(ring, key, copies)[-1:])
                for key in range(0, spots_of(ring), 3):
                    wanted = book_state(book, ring, copies)
                    own = walked_holders(ring, key, copies)
                    wanted[key] = {hand: (len(own), 1000) for hand in own}
                    self.assertIsNone(book.spread(key))
                    self.assertEqual(book_state(book, ring, copies), wanted)
                    self.assertIsNone(book.spread(key))
                    self.assertEqual(book_state(book, ring, copies), wanted)

    def test_an_older_pair_is_spread_where_the_newest_was_forgotten(self):
        book = Book(KNOWN, 3)
        book.write(6, 60, (9, 14))
        book.write(6, 61, (0, 14))
        book.forget(0)
        book.forget(14)
        self.assertIsNone(book.spread(6))
        self.assertEqual(kept_of(book, KNOWN, 3, 6), {9: (1, 60), 14: (1, 60), 0: (1, 60)})

    def test_the_number_goes_on_rising(self):
        book = Book(KNOWN, 2)
        self.assertEqual(book.write(6, 60, (9, 14)), 1)
        book.forget(9)
        self.assertEqual(book.write(6, 61, (9,)), 2)
        book.forget(9)
        book.spread(6)
        self.assertEqual(book.read(6, (9, 14)), (1, 60))
        self.assertEqual(book.write(6, 62, (14,)), 3)
        book.spread(6)
        book.forget(9)
        book.forget(14)
        assert_refused(self, NoKey, book.read, (6, (9, 14)))
        self.assertEqual(book.write(6, 63, (9,)), 4)

    def test_one_that_forgot_is_written_to_and_read_again(self):
        book = Book(KNOWN, 2)
        book.write(6, 60, (9, 14))
        book.forget(9)
        assert_refused(self, NoKey, book.read, (6, (9,)))
        self.assertEqual(book.read(6, (9, 14)), (1, 60))
        book.write(6, 61, (9,))
        self.assertEqual(book.read(6, (9, 14)), (2, 61))


class RowsOfActs(unittest.TestCase):
    def choose(self, choice, ring, copies):
        """An act that may be refused."""
        key = choice.randrange(min(4, spots_of(ring)))
        act = choice.choice(("write", "write", "write", "read", "forget", "spread"))
        own = walked_holders(ring, key, copies)
        some = tuple(choice.sample(own, choice.randrange(1, len(own) + 1)))
        if choice.randrange(8) == 0:
            some += (choice.randrange(spots_of(ring) + 1),)
        if act == "write":
            return act, (key, choice.randrange(-99, 99), some)
        if act == "read":
            return act, (key, some)
        if act == "forget":
            return act, (choice.choice(ring[1] + (spots_of(ring),)),)
        return act, (key,)

    def test_against_the_words_step_by_step(self):
        choice = random.Random(21)
        for ring in small_rings()[::6] + MIDDLE:
            for copies in range(1, 7):
                book, walked = Book(ring, copies), WalkedBook(ring, copies)
                for _ in range(20):
                    act, given = self.choose(choice, ring, copies)
                    wanted = getattr(walked, act)(*given)
                    if wanted in REFUSALS:
                        assert_refused(self, REFUSALS[wanted], getattr(book, act), given)
                    else:
                        self.assertEqual(getattr(book, act)(*given), wanted, (ring, act, given))
                self.assert_same_kept(book, walked, ring, copies)

    def assert_same_kept(self, book, walked, ring, copies):
        for key, kept in enumerate(book_state(book, ring, copies)):
            self.assertEqual(kept, {hand: walked.kept.get((hand, key)) for hand in kept})


class ReadsNeeded(unittest.TestCase):
    def least_that_is_enough(self, copies, written, forgot):
        """By trying: the least number such that each set of so many holders has one of those that keep it."""
        keeping = set(range(forgot, written))
        for many in range(1, copies + 1):
            if all(keeping & set(some) for some in itertools.combinations(range(copies), many)):
                return many

    def test_against_all_sets_of_holders(self):
        for copies in range(1, 7):
            for written in range(1, copies + 1):
                for forgot in range(written):
                    told = reads_needed(copies, written, forgot)
                    self.assertEqual(told, self.least_that_is_enough(copies, written, forgot))
                    self.assertIs(type(told), int)

    def test_known(self):
        self.assertEqual(reads_needed(3, 2, 0), 2)
        self.assertEqual(reads_needed(3, 3, 0), 1)
        self.assertEqual(reads_needed(5, 3, 1), 4)
        self.assertEqual(reads_needed(6, 6, 5), 6)
        self.assertEqual(reads_needed(9, 4, 1), 7)


class Promise(unittest.TestCase):
    """0.2 (g)."""

    def what_is_read(self, book, key, some):
        try:
            return book.read(key, some)
        except NoKey:
            return None

    def assert_so_many_read_it(self, book, key, own, last, keeping):
        needed = reads_needed(len(own), len(last[1]), len(last[1]) - len(keeping))
        for some in itertools.permutations(own, needed):
            self.assertEqual(book.read(key, some), last[0])
        if needed > 1:
            read = [self.what_is_read(book, key, some) for some in itertools.combinations(own, needed - 1)]
            self.assertTrue(any(pair != last[0] for pair in read))

    def test_over_rows_of_writes_and_of_forgetting(self):
        choice = random.Random(22)
        rows = 0
        for ring in [(3, (4,)), (3, (0, 7)), KNOWN, (5, tuple(range(0, 32, 3))), (4, tuple(range(16)))]:
            for copies in range(1, 7):
                key = choice.randrange(spots_of(ring))
                own = walked_holders(ring, key, copies)
                book, last, keeping = Book(ring, copies), None, set()
                for _ in range(12):
                    if not keeping or choice.randrange(3) == 0:
                        some = tuple(choice.sample(own, choice.randrange(1, len(own) + 1)))
                        value = choice.randrange(-5, 5)
                        last = ((book.write(key, value, some), value), some)
                        keeping = set(some)
                    else:
                        hand = choice.choice(ring[1])
                        book.forget(hand)
                        keeping.discard(hand)
                    if keeping:
                        rows += 1
                        self.assert_so_many_read_it(book, key, own, last, keeping)
                    if keeping and choice.randrange(6) == 0:
                        self.assert_spread(book, key, own, last)
                        last, keeping = (last[0], own), set(own)
        self.assertGreater(rows, 200)

    def assert_spread(self, book, key, own, last):
        book.spread(key)
        for hand in own:
            self.assertEqual(book.read(key, (hand,)), last[0])

    def test_each_way_to_write_and_to_forget(self):
        for copies in range(1, 5):
            own = walked_holders(KNOWN, 6, copies)
            for before in self.sets(own):
                for some in self.sets(own):
                    for forgetting in self.sets(own):
                        if set(some) - set(forgetting):
                            book = Book(KNOWN, copies)
                            book.write(6, 3, before)
                            book.write(6, -3, some)
                            for hand in forgetting:
                                book.forget(hand)
                            last = ((2, -3), some)
                            self.assert_so_many_read_it(book, 6, own, last, set(some) - set(forgetting))
                            self.assert_spread(book, 6, own, last)

    def sets(self, own):
        return [some for many in range(len(own) + 1) for some in itertools.combinations(own, many)]


if __name__ == "__main__":
    unittest.main()
