"""Changes: what is kept, papers done once more, a change at once and what it costs (0.2 (h), 8.1, 8.2)."""

import copy
import itertools
import random
import unittest

from ringkeep.changes import all_kept, change, least_moves, replayed
from ringkeep.errors import NoHand, NoKey
from ringkeep.keeps import Keep
from tests.walks import (
    WalkedKeep, all_rings, choose_act, filled, free_spots, hands_met, keep_state, large_rings, rings_beyond,
    small_rings, spots_of,
)

KNOWN = (4, (0, 3, 5, 9, 14))
MIDDLE = [ring for ring in large_rings() if ring[0] == 4]
LARGE = [ring for ring in large_rings() if ring[0] > 5 and len(ring[1]) in (1, 3, 12, 16)]


def without_empty(kept):
    """What is kept, of those hands alone that keep anything."""
    return tuple(row for row in kept if row[1])


def count_sends(paper):
    return sum(line[1] == "send" for line in paper)


def some_hands(choice, ring):
    """A rising tuple of one or more spots of the ring."""
    many = choice.randrange(1, min(spots_of(ring), 14) + 1)
    return tuple(sorted(choice.sample(range(spots_of(ring)), many)))


def worn_keep(choice, ring, copies, acts):
    """A keep behind some acts, and one by the document's words behind the same."""
    keep, walked = Keep(ring, copies), WalkedKeep(ring, copies)
    for key in range(0, spots_of(ring), 2):
        keep.put(key, 100 + key)
        walked.put(key, 100 + key)
    for _ in range(acts):
        act, given = choose_act(choice, keep.ring())
        getattr(keep, act)(*given)
        getattr(walked, act)(*given)
    return keep, walked


class AllKept(unittest.TestCase):
    def test_known(self):
        keep = Keep(KNOWN, 2)
        keep.put(6, 60)
        keep.put(4, -4)
        keep.put(10, 0)
        wanted = ((0, ((10, 0),)), (3, ()), (5, ((4, -4),)), (9, ((4, -4), (6, 60))), (14, ((6, 60), (10, 0))))
        self.assertEqual(all_kept(keep), wanted)

    def test_a_new_keep(self):
        for ring in small_rings()[::4] + MIDDLE:
            self.assertEqual(all_kept(Keep(ring, 3)), tuple((hand, ()) for hand in ring[1]))

    def test_behind_rows_of_acts(self):
        choice = random.Random(41)
        for ring in small_rings()[::6] + MIDDLE + LARGE:
            for copies in (1, 2, 4):
                keep, walked = worn_keep(choice, ring, copies, 6)
                before = keep_state(keep)
                self.assertEqual(all_kept(keep), tuple((hand, keep.has(hand)) for hand in keep.ring()[1]))
                self.assertEqual(all_kept(keep), tuple((hand, walked.has(hand)) for hand in walked.ring()[1]))
                self.assertEqual(keep_state(keep), before)


class Replayed(unittest.TestCase):
    kept = ((0, ((6, 60), (7, 70))), (3, ()), (9, ((4, -4), (6, 60))))

    def test_no_lines(self):
        self.assertEqual(replayed(self.kept, ()), self.kept)
        self.assertEqual(replayed((), ()), ())

    def test_all_is_sent_and_then_all_is_dropped(self):
        paper = ((4, "drop", 9), (4, "send", 9, 0), (7, "drop", 0), (7, "send", 0, 3), (7, "send", 0, 9))
        wanted = ((0, ((4, -4), (6, 60))), (3, ((7, 70),)), (9, ((6, 60), (7, 70))))
        self.assertEqual(replayed(self.kept, paper), wanted)

    def test_a_hand_that_takes_and_is_not_there_is_there_then(self):
        paper = ((4, "send", 9, 14), (7, "drop", 0), (7, "send", 0, 5), (7, "send", 0, 14))
        wanted = ((0, ((6, 60),)), (3, ()), (5, ((7, 70),)), (9, ((4, -4), (6, 60))), (14, ((4, -4), (7, 70))))
        self.assertEqual(replayed(self.kept, paper), wanted)

    def test_one_that_keeps_nothing_any_more_stays(self):
        paper = ((4, "drop", 9), (6, "drop", 9))
        self.assertEqual(replayed(self.kept, paper), ((0, ((6, 60), (7, 70))), (3, ()), (9, ())))

    def test_handed_in_is_not_changed(self):
        kept, paper = copy.deepcopy(self.kept), ((4, "drop", 9), (4, "send", 9, 1), (6, "drop", 0))
        as_it_was = repr((kept, paper))
        first = replayed(kept, paper)
        self.assertEqual(repr((kept, paper)), as_it_was)
        self.assertEqual(replayed(kept, paper), first)

    def wanted(self, before, keep):
        """What is kept behind an act; one that went keeps nothing, one that came and took nothing is not told of."""
        behind = dict(all_kept(keep))
        there = dict(before)
        rows = {hand: behind.get(hand, ()) for hand in there}
        rows.update({hand: has for hand, has in behind.items() if has})
        return tuple(sorted(rows.items()))

    def test_papers_of_rows_of_acts(self):
        choice = random.Random(42)
        papers = 0
        for ring in small_rings()[::5] + MIDDLE + LARGE:
            for copies in (1, 2, 3, 6):
                keep = worn_keep(choice, ring, copies, 2)[0]
                for _ in range(6):
                    before = all_kept(keep)
                    act, given = choose_act(choice, keep.ring())
                    paper = getattr(keep, act)(*given)
                    if act in ("come", "go", "mend"):
                        papers += paper != ()
                        self.assertEqual(replayed(before, paper), self.wanted(before, keep), (ring, act, given))
        self.assertGreater(papers, 300)

    def test_each_come_and_go_of_full_keeps(self):
        for ring in list(all_rings(3))[::3]:
            for copies in (1, 3):
                acts = [("come", spot) for spot in free_spots(ring)]
                acts += [("go", hand) for hand in ring[1] if len(ring[1]) > 1]
                for act, spot in acts:
                    keep = filled(Keep(ring, copies))
                    before = all_kept(keep)
                    paper = getattr(keep, act)(spot)
                    self.assertEqual(replayed(before, paper), self.wanted(before, keep))


class Change(unittest.TestCase):
    def test_known(self):
        # 5 and 14 stay, 0, 3 and 9 go, 7 and 8 come.
        keep = Keep(KNOWN, 2)
        keep.put(6, 60)
        keep.put(15, 150)
        wanted = (
            (6, "drop", 9), (6, "drop", 14), (6, "send", 9, 7), (6, "send", 9, 8),
            (15, "drop", 0), (15, "drop", 3), (15, "send", 0, 5), (15, "send", 0, 7),
        )
        self.assertEqual(change(keep, (5, 7, 8, 14)), wanted)
        self.assertEqual(keep.ring(), (4, (5, 7, 8, 14)))
        self.assertEqual(all_kept(keep), ((5, ((15, 150),)), (7, ((6, 60), (15, 150))), (8, ((6, 60),)), (14, ())))
        for hand in (0, 3, 9):
            self.assertRaises(NoHand, keep.has, hand)

    def test_none_in_common(self):
        keep = Keep((3, (0, 4)), 1)
        keep.put(1, 10)
        keep.put(7, 70)
        wanted = ((1, "drop", 4), (1, "send", 4, 2), (7, "drop", 0), (7, "send", 0, 2))
        self.assertEqual(change(keep, (2, 6)), wanted)
        self.assertEqual(all_kept(keep), ((2, ((1, 10), (7, 70))), (6, ())))

    def test_the_first_that_keeps_it_gives_also_if_it_goes_or_holds_it_no_more(self):
        keep = Keep(KNOWN, 3)
        keep.put(4, 40)
        keep.fall((5,))
        # 9 and 14 keep it yet; 9 goes, and is asked all the same.
        self.assertEqual(change(keep, (0, 6, 14)), ((4, "drop", 9), (4, "send", 9, 0), (4, "send", 9, 6)))

    def test_to_the_ring_as_it_is_is_a_mend(self):
        choice = random.Random(43)
        for ring in small_rings()[::6] + MIDDLE:
            for copies in (1, 2, 3, 6):
                keep, walked = worn_keep(choice, ring, copies, 4)
                self.assertEqual(change(keep, keep.ring()[1]), walked.mend())
                self.assertEqual(keep_state(keep), keep_state(walked))
                self.assertEqual(change(keep, keep.ring()[1]), ())
                self.assertEqual(keep.mend(), ())

    def test_by_one_hand_it_is_a_come_or_a_go(self):
        choice = random.Random(44)
        for ring in small_rings()[::4] + MIDDLE:
            for copies in (1, 2, 4):
                keep, walked = worn_keep(choice, ring, copies, 3)
                hands = keep.ring()[1]
                for spot in free_spots(keep.ring()):
                    one, other = copy.deepcopy(keep), copy.deepcopy(walked)
                    self.assertEqual(change(one, tuple(sorted(hands + (spot,)))), other.come(spot))
                    self.assertEqual(keep_state(one), keep_state(other))
                for hand in hands if len(hands) > 1 else ():
                    one, other = copy.deepcopy(keep), copy.deepcopy(walked)
                    self.assertEqual(change(one, tuple(them for them in hands if them != hand)), other.go(hand))
                    self.assertEqual(keep_state(one), keep_state(other))

    def assert_by_the_words(self, keep, walked, hands, copies):
        keys = [key for key in range(spots_of(keep.ring())) if keep.keepers(key)]
        values = [keep.get(key) for key in keys]
        paper = change(keep, hands)
        self.assertEqual(paper, walked.change(hands))
        self.assertEqual(list(paper), sorted(set(paper)))
        self.assertEqual(keep_state(keep), keep_state(walked))
        self.assertEqual(keep.ring(), (keep.ring()[0], hands))
        self.assertEqual([key for key in range(spots_of(keep.ring())) if keep.keepers(key)], keys)
        self.assertEqual([keep.get(key) for key in keys], values)
        for key in keys:
            self.assertEqual(keep.keepers(key), tuple(sorted(hands_met(keep.ring(), key)[:copies])))

    def test_all_changes_of_the_least_rings(self):
        for ring, other in itertools.product(all_rings(2), repeat=2):
            for copies in (1, 2, 3, 6):
                keep, walked = filled(Keep(ring, copies)), filled(WalkedKeep(ring, copies))
                self.assert_by_the_words(keep, walked, other[1], copies)

    def test_some_changes_behind_rows_of_acts(self):
        choice = random.Random(45)
        for ring in small_rings()[::5] + MIDDLE * 2 + LARGE:
            for copies in range(1, 7):
                keep, walked = worn_keep(choice, ring, copies, 4)
                for _ in range(3):
                    self.assert_by_the_words(keep, walked, some_hands(choice, ring), copies)
                    self.assertEqual(keep.fall(keep.ring()[1][1:2]), walked.fall(walked.ring()[1][1:2]))

    def test_beats_and_hands_beyond(self):
        choice = random.Random(46)
        for ring in rings_beyond():
            for copies in (1, 2, 7):
                keep, walked = filled(Keep(ring, copies)), filled(WalkedKeep(ring, copies))
                self.assert_by_the_words(keep, walked, some_hands(choice, ring), copies)
        keep, walked = filled(Keep(KNOWN, 3)), filled(WalkedKeep(KNOWN, 3))
        self.assert_by_the_words(keep, walked, tuple(range(16)), 3)

    def test_a_spot_that_is_none_changes_nothing(self):
        for copies in (1, 3):
            keep, walked = filled(Keep(KNOWN, copies)), filled(WalkedKeep(KNOWN, copies))
            keep.fall((9,))
            walked.fall((9,))
            before = keep_state(keep)
            for hands in ((16,), (-1,), (0, 3, 16), (-1, 0, 3), (-16, 5), (1, 2, 17, 18), (0, 3, 5, 14, 1000)):
                with self.assertRaises(NoHand) as caught:
                    change(keep, hands)
                self.assertNotIsInstance(caught.exception, NoKey)
                self.assertEqual(keep_state(keep), before)
                for spot in free_spots(keep.ring()):
                    self.assertRaises(NoHand, keep.has, spot)
            self.assert_by_the_words(keep, walked, (0, 15), copies)

    def test_the_keep_goes_on_behind_it(self):
        choice = random.Random(52)
        keep, walked = filled(Keep(KNOWN, 2)), filled(WalkedKeep(KNOWN, 2))
        self.assert_by_the_words(keep, walked, (2, 9, 10, 15), 2)
        for _ in range(30):
            act, given = choose_act(choice, keep.ring())
            self.assertEqual(getattr(keep, act)(*given), getattr(walked, act)(*given))
            self.assertEqual(keep_state(keep), keep_state(walked))


class LeastMoves(unittest.TestCase):
    def counted(self, ring, other, copies, keys):
        moves = 0
        for key in keys:
            moves += len(set(hands_met(other, key)[:copies]) - set(hands_met(ring, key)[:copies]))
        return moves

    def test_known(self):
        self.assertEqual(least_moves(KNOWN, (4, (5, 7, 8, 14)), 2, (6, 15)), 4)
        self.assertEqual(least_moves(KNOWN, (4, (5, 7, 8, 14)), 2, (6,)), 2)
        self.assertEqual(least_moves(KNOWN, (4, (0, 3, 5, 7, 9, 14)), 1, tuple(range(16))), 2)
        self.assertEqual(least_moves(KNOWN, KNOWN, 3, tuple(range(16))), 0)
        self.assertEqual(least_moves(KNOWN, (4, (1,)), 3, ()), 0)
        # With one hand more the other ring has more holders of each key.
        self.assertEqual(least_moves((2, (0,)), (2, (0, 2)), 2, (3, 1, 0)), 3)
        self.assertEqual(least_moves((2, (0, 2)), (2, (0,)), 2, (3, 1, 0)), 0)

    def test_against_holders_on_both_rings(self):
        for ring, other in itertools.product(all_rings(2), repeat=2):
            for copies in range(1, 7):
                for many in range(5):
                    for keys in itertools.combinations(range(4), many):
                        self.assertEqual(
                            least_moves(ring, other, copies, keys), self.counted(ring, other, copies, keys)
                        )

    def test_larger_rings(self):
        choice = random.Random(47)
        for ring in MIDDLE + LARGE + rings_beyond():
            for copies in (1, 2, 3, 6, 8):
                other = (ring[0], some_hands(choice, ring))
                keys = list(range(spots_of(ring)))
                choice.shuffle(keys)
                keys = tuple(keys[:40])
                self.assertEqual(least_moves(ring, other, copies, keys), self.counted(ring, other, copies, keys))


class Promise(unittest.TestCase):
    """0.2 (h)."""

    def test_by_its_paper_what_is_kept_behind_a_change_is_made(self):
        choice = random.Random(48)
        for ring in small_rings()[::5] + MIDDLE + LARGE:
            for copies in range(1, 7):
                keep = worn_keep(choice, ring, copies, 3)[0]
                before = all_kept(keep)
                made = replayed(before, change(keep, some_hands(choice, ring)))
                self.assertEqual(without_empty(made), without_empty(all_kept(keep)))
                # Those who are no more keep nothing, and all who were are told of.
                self.assertLessEqual({hand for hand, _ in before}, {hand for hand, _ in made})

    def test_where_each_key_is_with_its_holders_the_least_is_sent(self):
        choice = random.Random(49)
        for ring in small_rings()[::3] + MIDDLE + LARGE:
            for copies in range(1, 7):
                keep = Keep(ring, copies)
                keys = tuple(choice.sample(range(spots_of(ring)), choice.randrange(spots_of(ring) + 1)))
                for key in keys:
                    keep.put(key, key)
                for _ in range(3):
                    ring_before = keep.ring()
                    paper = change(keep, some_hands(choice, ring))
                    self.assertEqual(count_sends(paper), least_moves(ring_before, keep.ring(), copies, keys))

    def orders(self, choice, ring, hands):
        """Comes and goes that lead to these hands, in several orders, the last hand never going."""
        acts = [("come", spot) for spot in hands if spot not in ring[1]]
        acts += [("go", hand) for hand in ring[1] if hand not in hands]
        orders = [acts] + [choice.sample(acts, len(acts)) for _ in range(5)]
        if len(acts) <= 4:
            orders = [list(order) for order in itertools.permutations(acts)]
        for order in orders:
            many = len(ring[1])
            least = many
            for act, _ in order:
                many += 1 if act == "come" else -1
                least = min(least, many)
            if least > 0:
                yield order

    def assert_no_order_sends_less(self, choice, keep, hands):
        ring = keep.ring()
        at_once = copy.deepcopy(keep)
        sends = count_sends(change(at_once, hands))
        rows = 0
        for order in self.orders(choice, ring, hands):
            step_by_step = copy.deepcopy(keep)
            sent = sum(count_sends(getattr(step_by_step, act)(spot)) for act, spot in order)
            if not order:
                sent = count_sends(step_by_step.mend())
            self.assertGreaterEqual(sent, sends, (ring, hands, order))
            self.assertEqual(keep_state(step_by_step), keep_state(at_once))
            rows += sent > sends
        return rows

    def test_comes_and_goes_one_behind_the_other_send_no_less(self):
        choice = random.Random(50)
        rows = 0
        for ring, other in itertools.product(list(all_rings(2)), repeat=2):
            for copies in (1, 2):
                rows += self.assert_no_order_sends_less(choice, filled(Keep(ring, copies)), other[1])
        for ring in list(all_rings(3))[::9] + MIDDLE:
            for copies in (1, 2, 3):
                keep = filled(Keep(ring, copies))
                hands = ring[1][:-2] + tuple(spot for spot in free_spots(ring)[-2:] if spot > ring[1][-1])
                for target in (some_hands(choice, ring), hands or ring[1]):
                    rows += self.assert_no_order_sends_less(choice, keep, target)
        # Some orders send what the change at once doesn't.
        self.assertGreater(rows, 100)

    def test_other_rings_on_the_way_send_no_less(self):
        choice = random.Random(51)
        for ring in small_rings()[::6] + MIDDLE:
            for copies in (1, 2, 4):
                keep = filled(Keep(ring, copies))
                on_the_way = copy.deepcopy(keep)
                sent = sum(count_sends(change(on_the_way, some_hands(choice, ring))) for _ in range(3))
                self.assertGreaterEqual(sent, count_sends(change(keep, on_the_way.ring()[1])))
                self.assertEqual(keep_state(keep), keep_state(on_the_way))


if __name__ == "__main__":
    unittest.main()
