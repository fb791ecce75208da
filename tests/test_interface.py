"""Everything that the interface tells is there, under its name, with its arguments."""

import importlib
import inspect
import unittest

FUNCTIONS = {
    "rings": (
        "is_ring(thing)", "how_far(ring, one, other)", "home_of(ring, key)", "holders(ring, key, copies)",
        "next_hand(ring, hand)", "span_of(ring, hand)", "came(ring, spot)", "went(ring, hand)",
    ),
    "routes": ("fingers(ring, hand)", "route(ring, hand, key)", "most_hops(ring)"),
    "losses": ("lost_by(ring, copies, hands)", "safe_falls(ring, copies)", "count_losing(ring, copies, many)"),
    "books": ("reads_needed(copies, written, forgot)",),
    "crews": (
        "ring_of(beat, crew)", "name_of(crew, spot)", "loads(beat, crew)", "names_for(beat, crew, key, copies)",
        "best_spot(ring)", "even_ring(beat, many)",
    ),
    "changes": (
        "all_kept(keep)", "replayed(kept, paper)", "change(keep, hands)", "least_moves(ring, other, copies, keys)",
    ),
}
CLASSES = {
    "keeps": (
        "Keep(ring, copies)", "ring()", "put(key, value)", "get(key)", "has(hand)", "keepers(key)", "mend()",
        "come(spot)", "go(hand)", "fall(hands)",
    ),
    "crowds": (
        "Crowd(ring, reach)", "standing()", "knows(hand)", "points(hand)", "fall(hands)", "find(hand, key)",
        "come(spot, hand)", "tidy(hand)", "settled()",
    ),
    "books": ("Book(ring, copies)", "write(key, value, some)", "read(key, some)", "forget(hand)", "spread(key)"),
}


class Interface(unittest.TestCase):
    def assert_there(self, owner, told):
        name = told.split("(")[0]
        self.assertTrue(hasattr(owner, name), told)
        self.assertEqual(name + str(inspect.signature(getattr(owner, name))), told)

    def test_functions(self):
        for module, rows in FUNCTIONS.items():
            for told in rows:
                self.assert_there(importlib.import_module("ringkeep." + module), told)

    def test_classes_and_their_methods(self):
        for module, rows in CLASSES.items():
            module = importlib.import_module("ringkeep." + module)
            self.assert_there(module, rows[0])
            thing = getattr(module, rows[0].split("(")[0])((3, (1, 5)), 2)
            for told in rows[1:]:
                self.assert_there(thing, told)


if __name__ == "__main__":
    unittest.main()
