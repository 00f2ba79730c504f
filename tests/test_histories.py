"""Point 4, over long histories of all methods: the store beside one list of all rows."""

import random
import unittest

from tests.histories import STEPS, History, Pair

# One history for each of these numbers.
SEEDS = list(range(400, 424))

QUESTIONS = "ask plan_for count_groups is_separate extreme moves join_rows pairs is_partwise leaf_of possible_row".split()


class HistoriesTest(unittest.TestCase):
    def test_histories(self):
        seen = {}
        for seed in SEEDS:
            chooser = random.Random(seed)
            pair = Pair(self, [None, None, 3, 5][seed % 4], seed % 3 == 0)
            self.go(pair, History(pair, chooser))
            for key, count in pair.seen.items():
                seen[key] = seen.get(key, 0) + count
        for method in STEPS + QUESTIONS:
            if method != "create":
                self.assertGreater(seen.get((method, "done"), 0), 1, method)

    def go(self, pair, history):
        history.begin()
        for count in range(80):
            history.step()
            pair.compare()
            if count % 2 == 0:
                history.question()
                pair.compare()
            if count % 20 == 0:
                pair.compare_copies()


if __name__ == "__main__":
    unittest.main()
