"""Greatest and least numbers that are good: what the searches of the stages 17, 20 and 22 share."""

import unittest

from dawnway.base.search import greatest_good, least_good


class SearchTest(unittest.TestCase):
    def search(self, function, is_good, low, high):
        """The number that is found, and all that were asked for."""
        asked = []

        def noted(number):
            asked.append(number)
            return is_good(number)

        return function(noted, low, high), asked

    def test_greatest(self):
        for low in (-3, 0, 5):
            for high in range(low, low + 40):
                for best in range(low, high + 1):
                    found, asked = self.search(greatest_good, lambda number: number <= best, low, high)
                    self.assertEqual(found, best)
                    self.assertTrue(all(low < number <= high for number in asked))
                    self.assertEqual(len(asked), len(set(asked)))

    def test_least(self):
        for low in (-3, 0, 5):
            for high in range(low, low + 40):
                for best in range(low, high + 1):
                    found, asked = self.search(least_good, lambda number: number >= best, low, high)
                    self.assertEqual(found, best)
                    self.assertTrue(all(low <= number < high for number in asked))

    def test_few_numbers_are_asked_for(self):
        far = 10 ** 30
        for best, many in ((far, 1), (0, 2), (1, 4), (7, 9), (100, 20), (far // 2, 210), (far - 1, 210)):
            found, asked = self.search(greatest_good, lambda number: number <= best, 0, far)
            self.assertEqual(found, best)
            self.assertLessEqual(len(asked), many)
        for best in (0, 1, far // 3, far):
            found, asked = self.search(least_good, lambda number: number >= best, 0, far)
            self.assertEqual(found, best)
            self.assertLessEqual(len(asked), 101)


if __name__ == "__main__":
    unittest.main()
