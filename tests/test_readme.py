import doctest
import unittest


class TestReadme(unittest.TestCase):
    def test_what_the_readme_shows_is_so(self):
        told = doctest.testfile("../README.md", module_relative=True)
        self.assertGreater(told.attempted, 0)
        self.assertEqual(told.failed, 0)


if __name__ == "__main__":
    unittest.main()
