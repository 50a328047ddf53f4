import unittest

from everso import bounds


class Bounds(unittest.TestCase):
    def test_they_are_the_whole_numbers_told(self):
        for name, number in (("MOST", 2000), ("DEEP", 10), ("KEEP", 200)):
            with self.subTest(name):
                self.assertEqual(getattr(bounds, name), number)
                self.assertIs(type(getattr(bounds, name)), int)


if __name__ == "__main__":
    unittest.main()
