import random
import unittest
from fractions import Fraction

from tests.helper import AllParts, great_web, great_webs, plain_level, several_webs, tiny_webs
from weblayers.densest import densest
from weblayers.layers import layers, level_heights, level_laying
from weblayers.layings import heights, is_laying, is_level
from weblayers.webs import share


class Layers(unittest.TestCase):
    def check(self, web):
        self.assertEqual(layers(web), AllParts(web).layers())
        self.check_together(web)

    def check_together(self, web):
        """What holds of layers, heights and laying whatever they are."""
        told = layers(web)
        self.assertEqual(told[0], (densest(web), share(web, densest(web))))
        falling = [Fraction(*height) for part, height in told]
        self.assertTrue(all(one > other for one, other in zip(falling, falling[1:])))
        self.assertEqual(sorted(place for part, height in told for place in part), list(range(len(web[0]))))
        high = level_heights(web)
        self.assertEqual(len(high), len(web[0]))
        for part, height in told:
            self.assertEqual(part, tuple(sorted(part)))
            for place in part:
                self.assertEqual(high[place], height)
        laying = level_laying(web)
        self.assertTrue(is_laying(web, laying))
        self.assertTrue(is_level(web, laying))
        self.assertTrue(plain_level(web, laying))
        self.assertEqual(heights(web, laying), high)

    def test_by_hand(self):
        for web, told in (
            (((7,), ()), (((0,), (0, 1)),)),
            (((7, 1, 1), ()), (((0, 1, 2), (0, 1)),)),
            (((1, 1, 2), (((0, 1), 3), ((2,), 1))), (((0, 1), (3, 2)), ((2,), (1, 2)))),
            (((1, 1, 2), (((0,), 2), ((0, 1), 3), ((0, 1, 2), 1))), (((0, 1), (5, 2)), ((2,), (1, 2)))),
            (((1, 1, 1), (((0,), 3), ((0, 1), 2), ((1, 2), 1))), (((0,), (3, 1)), ((1,), (2, 1)), ((2,), (1, 1)))),
            (((1, 1, 1), (((0,), 3), ((0, 1), 1), ((1, 2), 1))), (((0,), (3, 1)), ((1, 2), (1, 1)))),
            (((1, 1, 1, 1), (((0, 1), 2),)), (((0, 1), (1, 1)), ((2, 3), (0, 1)))),
            (((2, 3, 5), (((2,), 1),)), (((2,), (1, 5)), ((0, 1), (0, 1)))),
        ):
            self.assertEqual(layers(web), told)
            self.check(web)

    def test_a_layer_counts_ties_to_the_layers_ahead(self):
        web = ((1, 1, 1, 1), (((0,), 9), ((0, 1, 2), 4), ((1,), 1), ((3,), 2)))
        self.assertEqual(layers(web), (((0,), (9, 1)), ((1, 2), (5, 2)), ((3,), (2, 1))))
        self.assertEqual(level_heights(web), ((9, 1), (5, 2), (5, 2), (2, 1)))
        self.assertEqual(level_laying(web), (((9, 1),), ((0, 1), (3, 2), (5, 2)), ((1, 1),), ((2, 1),)))

    def test_all_tiny_webs(self):
        for web in tiny_webs():
            self.check(web)

    def test_small_webs(self):
        for web in several_webs():
            self.check(web)

    def test_great_webs(self):
        for web in great_webs():
            self.check(web)

    def test_a_long_stair(self):
        # Each place a little lower than the one ahead: twelve layers.
        ties = [((0,), 10 ** 6)] + [((at, at + 1), 10 ** 6 - 10 * at - 10) for at in range(11)]
        web = ((1,) * 12, tuple(sorted(ties)))
        self.assertEqual(layers(web), tuple(((at,), (10 ** 6 - 10 * at, 1)) for at in range(12)))
        self.check(web)

    def test_asked_often(self):
        chance = random.Random(31)
        for turn in range(150):
            self.check_together(great_web(chance, ((2,), (1, 2), (2, 3), (1, 2, 3, 4))[turn % 4]))


if __name__ == "__main__":
    unittest.main()
