"""What is told is plain, what is handed in stays, and the same is told again (0.3)."""

import copy
import unittest

from ringkeep.books import Book, reads_needed
from ringkeep.changes import all_kept, change, least_moves, replayed
from ringkeep.crews import best_spot, even_ring, loads, name_of, names_for, ring_of
from ringkeep.crowds import Crowd
from ringkeep.errors import NoHand, NoKey
from ringkeep.keeps import Keep
from ringkeep.losses import count_losing, lost_by, safe_falls
from ringkeep.rings import came, holders, home_of, how_far, is_ring, next_hand, span_of, went
from ringkeep.routes import fingers, most_hops, route
from tests.walks import filled, free_spots, large_rings, small_rings, spots_of


def calls_on(ring):
    """Every function with some arguments of the ring's, and the kind that it tells."""
    return calls_of_rings(ring) + calls_of_crews(ring) + calls_of_changes(ring)


def calls_of_rings(ring):
    hand = ring[1][-1]
    free = free_spots(ring)
    calls = [(is_ring, (ring,), bool), (most_hops, (ring,), int), (next_hand, (ring, hand), int)]
    calls += [(span_of, (ring, hand), tuple), (fingers, (ring, hand), tuple)]
    for key in (0, 1, spots_of(ring) - 1):
        calls += [(how_far, (ring, key, hand), int), (home_of, (ring, key), int)]
        calls += [(holders, (ring, key, 1), tuple), (holders, (ring, key, 6), tuple), (route, (ring, hand, key), tuple)]
    calls += [(came, (ring, spot), tuple) for spot in free[:2]]
    if len(ring[1]) > 1:
        calls.append((went, (ring, hand), tuple))
    for copies in (1, 3):
        calls += [(lost_by, (ring, copies, ring[1][:3]), tuple), (safe_falls, (ring, copies), int)]
        calls.append((count_losing, (ring, copies, min(2, len(ring[1]))), int))
    return calls


def calls_of_crews(ring):
    crew = (ring[1][::2],) + ((ring[1][1::2],) if len(ring[1]) > 1 else ())
    calls = [(ring_of, (ring[0], crew), tuple), (loads, (ring[0], crew), tuple), (even_ring, (ring[0], 3), tuple)]
    calls += [(name_of, (crew, hand), int) for hand in ring[1]]
    calls += [(names_for, (ring[0], crew, key, 2), tuple) for key in (0, spots_of(ring) - 1)]
    calls += [(best_spot, (ring,), tuple)] if free_spots(ring) else []
    calls += [(reads_needed, (5, 3, 1), int)]
    return calls


def calls_of_changes(ring):
    keep = filled(Keep(ring, 2))
    kept = all_kept(keep)
    other = (ring[0], (0, spots_of(ring) - 2, spots_of(ring) - 1))
    paper = change(keep, other[1])
    calls = [(replayed, (kept, paper), tuple), (replayed, (kept, ()), tuple)]
    calls += [(least_moves, (ring, other, copies, (0, 3, 1)), int) for copies in (1, 3)]
    return calls


class Plain(unittest.TestCase):
    rings = small_rings()[::3] + [ring for ring in large_rings() if len(ring[1]) <= 16]

    def assert_plain(self, told):
        if type(told) is tuple:
            for part in told:
                self.assert_plain(part)
        else:
            self.assertIn(type(told), (int, str, bool, type(None)))


class Values(Plain):

    def test_told_are_plain_values_of_the_kind(self):
        for ring in self.rings:
            for function, given, kind in calls_on(ring):
                told = function(*given)
                self.assertIs(type(told), kind, function)
                self.assert_plain(told)

    def test_whole_numbers_are_told_where_whole_numbers_belong(self):
        def flat(told):
            return [part for thing in told for part in flat(thing)] if type(told) is tuple else [told]

        for ring in self.rings:
            for function, given, kind in calls_on(ring):
                if kind is not bool:
                    for part in flat(function(*given)):
                        self.assertIs(type(part), int, function)

    def test_handed_in_is_not_changed_and_the_same_is_told_again(self):
        for ring in self.rings:
            calls = calls_on(ring)
            before = copy.deepcopy([given for _, given, _ in calls])
            first = [function(*given) for function, given, _ in calls]
            again = [function(*given) for function, given, _ in reversed(calls)]
            self.assertEqual(again[::-1], first)
            self.assertEqual([given for _, given, _ in calls], before)

    def test_equal_rings_are_told_the_same(self):
        for ring in self.rings:
            twin = (ring[0], tuple(list(ring[1])))
            for (function, given, _), (_, others, _) in zip(calls_on(ring), calls_on(twin)):
                self.assertEqual(function(*given), function(*others))


def asked_of_keep(keep, ring):
    hands = keep.ring()[1]
    calls = [(keep.ring, (), tuple), (all_kept, (keep,), tuple)]
    calls += [(keep.has, (hand,), tuple) for hand in hands]
    for key in range(0, spots_of(ring), 3):
        calls += [(keep.keepers, (key,), tuple)] + ([(keep.get, (key,), int)] if keep.keepers(key) else [])
    return calls


def acts_of_keep(keep, ring):
    """Acts that are not refused, each made when the one ahead of it is done."""
    for key in range(0, spots_of(ring), 2):
        yield keep.put, (key, key - 5), type(None)
    if len(ring[1]) > 2:
        yield keep.fall, (ring[1][:2],), tuple
    yield keep.mend, (), tuple
    free = free_spots(keep.ring())
    if free:
        yield keep.come, (free[0],), tuple
    if len(keep.ring()[1]) > 1:
        yield keep.go, (keep.ring()[1][-1],), tuple
    yield keep.put, (0, 99), type(None)
    yield change, (keep, (1, 3)), tuple
    yield keep.put, (1, 98), type(None)


def asked_of_crowd(crowd, ring):
    calls = [(crowd.standing, (), tuple), (crowd.settled, (), bool)]
    for hand in crowd.standing():
        calls += [(crowd.knows, (hand,), tuple), (crowd.points, (hand,), tuple)]
        calls += [(crowd.find, (hand, key), tuple) for key in range(0, spots_of(ring), 5)]
    return calls


def acts_of_crowd(crowd, ring):
    if len(ring[1]) > 2:
        yield crowd.fall, (ring[1][:2],), type(None)
    free = [spot for spot in range(spots_of(ring)) if spot not in crowd.standing()]
    if free:
        yield crowd.come, (free[-1], crowd.standing()[0]), tuple
    for hand in crowd.standing():
        yield crowd.tidy, (hand,), type(None)


def kept_in_book(book, ring):
    """The keys that a reader of all their holders finds."""
    keys = []
    for key in range(0, spots_of(ring), 3):
        try:
            book.read(key, holders(ring, key, 2))
            keys.append(key)
        except NoKey:
            pass
    return keys


def asked_of_book(book, ring):
    return [(book.read, (key, holders(ring, key, 2)), tuple) for key in kept_in_book(book, ring)]


def acts_of_book(book, ring):
    for key in range(0, spots_of(ring), 3):
        yield book.write, (key, key - 5, holders(ring, key, 2)), int
    yield book.forget, (ring[1][0],), type(None)
    for key in kept_in_book(book, ring):
        yield book.spread, (key,), type(None)
        yield book.write, (key, 7, holders(ring, key, 2)[-1:]), int


class KeepsCrowdsAndBooks(Plain):
    def each(self):
        """A new keep, crowd and book of each ring, with what may be asked of them and done to them."""
        for ring in self.rings:
            yield ring, Keep(ring, 2), asked_of_keep, acts_of_keep
            yield ring, Crowd(ring, 2), asked_of_crowd, acts_of_crowd
            yield ring, Book(ring, 2), asked_of_book, acts_of_book

    def tell(self, act, given, kind):
        told = act(*given)
        self.assertIs(type(told), kind, act)
        self.assert_plain(told)
        return told

    def test_told_is_plain_and_stays_as_it_was(self):
        for ring, thing, asked, acts in self.each():
            ring_as_it_was = repr(ring)
            told = []
            for act, given, kind in acts(thing, ring):
                given_as_it_was = repr(given)
                one = self.tell(act, given, kind)
                self.assertEqual(repr(given), given_as_it_was)
                told.append((one, repr(one)))
                for ask, these, what in asked(thing, ring):
                    one = self.tell(ask, these, what)
                    told.append((one, repr(one)))
            for one, as_it_was in told:
                self.assertEqual(repr(one), as_it_was)
            self.assertEqual(repr(ring), ring_as_it_was)

    def test_asked_again_the_same_is_told(self):
        for ring, thing, asked, acts in self.each():
            for act, given, _ in acts(thing, ring):
                act(*given)
                calls = asked(thing, ring)
                first = [ask(*these) for ask, these, _ in calls]
                again = [ask(*these) for ask, these, _ in reversed(calls)]
                self.assertEqual(again[::-1], first)

    def test_the_same_done_again_tells_the_same(self):
        for one, other in zip(self.each(), self.each()):
            ring, thing, _, acts = one
            told = [act(*given) for act, given, _ in acts(thing, ring)]
            ring, thing, _, acts = other
            self.assertEqual([act(*given) for act, given, _ in acts(thing, ring)], told)

    def test_a_refusal_is_told_again(self):
        keep = Keep((3, (1, 5)), 1)
        for _ in range(3):
            self.assertRaises(NoKey, keep.get, 4)
        book = Book((3, (1, 5)), 1)
        for _ in range(3):
            self.assertRaises(NoKey, book.read, 4, (5,))
            self.assertRaises(NoKey, book.spread, 4)
            self.assertRaises(NoHand, book.read, 4, (1,))
            self.assertRaises(NoHand, change, keep, (8,))


if __name__ == "__main__":
    unittest.main()
