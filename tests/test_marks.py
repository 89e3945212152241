import unittest

from roundstore import marks


class Marks(unittest.TestCase):
    def test_values(self):
        self.assertEqual(marks.RING, 64)
        self.assertEqual(marks.STOP, 28)
        self.assertEqual(marks.WARN, 20)

    def test_whole_numbers(self):
        for mark in (marks.RING, marks.STOP, marks.WARN):
            self.assertIs(type(mark), int)


if __name__ == "__main__":
    unittest.main()
