"""The sessions of README.md, as they stand there."""

import doctest
import os

from tests.support import Case


class Readme(Case):

    def test_the_sessions(self):
        path = os.path.join(os.path.dirname(os.path.dirname(os.path.abspath(__file__))), "README.md")
        failures, tried = doctest.testfile(path, module_relative=False)
        self.assertEqual(failures, 0)
        self.assertTrue(tried > 50)
