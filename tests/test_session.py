"""The short session of the document [1], and the sessions that README.md shows."""

import doctest
import os
import unittest

SESSION = """
>>> from endlesskinds.tables import Table
>>> from endlesskinds.endings import verdict
>>> from endlesskinds.needs import needs
>>> from endlesskinds.within import answer
>>> one = ("one", (), (), ())
>>> box = ("box", (("X", "out"),), (), (("first", "reads", "X"),))
>>> deep = ("deep", (("X", "out"),), (), (("more", "reads", ("deep", ("box", "X"))),))
>>> table = Table(one, box, deep)
>>> needs(table, ("box", ("box", ("one",))))
(('box', ('box', ('one',))), ('box', ('one',)), ('one',))
>>> verdict(table, ("box", ("box", ("one",))))
('ends', 3)
>>> verdict(table, ("deep", ("one",)))
('endless', (('deep', 'X'),))
>>> sink = ("sink", (("X", "in"),), (), ())
>>> odd = ("odd", (), (("sink", ("sink", ("odd",))),), ())
>>> answer(Table(sink, odd), ("odd",), ("sink", ("odd",)))
'round'
"""

README = os.path.join(os.path.dirname(os.path.abspath(__file__)), "..", "README.md")


class SessionTest(unittest.TestCase):
    def run_session(self, session, name):
        examples = doctest.DocTestParser().get_doctest(session, {}, name, None, 0)
        said = []
        found = doctest.DocTestRunner(verbose=False).run(examples, out=said.append)
        self.assertEqual("".join(said), "")
        self.assertEqual(found.failed, 0)
        return found.attempted

    def test_of_the_document(self):
        self.assertEqual(self.run_session(SESSION, "session"), 14)

    def test_of_the_readme(self):
        with open(README, encoding="utf-8") as file:
            session = "".join("\n" if line.startswith("```") else line for line in file)
        self.assertGreater(self.run_session(session, "README.md"), 30)


if __name__ == "__main__":
    unittest.main()
