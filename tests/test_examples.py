"""The examples of the document, as they stand there, one behind another."""

import doctest
import unittest

EXAMPLES = r"""
    >>> from contrabooks.deciding import goals, least
    >>> from contrabooks.houses import House
    >>> text = "depth 3\ncheck left\nfirst open part now\nfirst shut whole now\nminus open whole now\nplus open part now"
    >>> house = House.read(text)
    >>> goals(house), len(least(house, "over"))
    (('over',), 5)

    >>> from contrabooks.books import play
    >>> from contrabooks.moves import History
    >>> book = play(house, History.read("begin 5; take 0 by 2; take 1; shut; take 0; begin 4"))
    >>> [(book[at].month, book[at].amount, book[at].target, book.kind_of(at), book.left_of(at)) for at in range(5)]
    [(0, 5, None, 'first', 0), (0, 2, 0, 'minus', 0), (0, 2, 1, 'plus', 2), (1, 5, 0, 'minus', 5), (1, 4, None, 'first', 4)]

    >>> from contrabooks.reports import Report
    >>> plain = Report.read("first 1 own\nminus 1 own\nplus 1 own\nnew 1 own")
    >>> late = Report.read("first 1 own\nminus 1 deed\nplus 1 deed\nnew 1 deed")
    >>> str(plain(book)), str(late(book)), str(2 * plain(book) - late(book)), plain(book).total
    ('0: 5, 1: -1', '1: 4', '0: 10, 1: -6', 4)

    >>> back = House.read(text.replace("whole now", "whole there"))
    >>> goals(back), len(least(back, "moved")), goals(house, plain), goals(house, late), len(least(house, "changed", late))
    (('moved', 'over'), 3, ('over',), ('changed', 'over'), 3)

    >>> from contrabooks.papers import paper, paper_holds
    >>> once = House.read("depth 1\ncheck left\nfirst open whole now")
    >>> told = ((0, (0,), False, False, False, 0), (0, (0,), False, False, False, 1), (0, (0, 0), False, False, False, 0), (0, (0, 0), False, False, False, 1))
    >>> paper_holds(once, "twice", told), paper_holds(once, "twice", told[:3]), paper(house, "over"), paper_holds(house, "twice", paper(house, "twice"))
    (True, False, None, True)

    >>> from contrabooks.comparing import alike, apart, needed, parting
    >>> alike(house, plain, late), len(parting(house, plain, late)), needed(house, plain), needed(house, late)
    (False, 3, (), ('minus', 'plus'))
    >>> len(apart(house, back)), apart(house, House.read(text + "\nfirst open part there"))
    (3, None)

    >>> from contrabooks.repairs import repairs
    >>> repairs(house, "over"), repairs(back, "moved")
    (((2,), (3,), (0, 1)), ((1,),))

    >>> from contrabooks.telling import printed, ways
    >>> printed(house, History.read("begin 2; shut; begin 2; take 1 by 2"))
    ((0, 0, 2), (1, 1, 2), (1, 1, -2))
    >>> ways(house, [(0, 0, 2), (1, 1, 2), (1, 1, -2)])
    (((-1, -1), (-1, -1), (0, -1)), ((-1, -1), (-1, -1), (1, -1)))

    >>> from contrabooks.desk import Desk
    >>> desk = Desk()
    >>> desk.say("house depth 1 ; check left ; first shut part there"), desk.say("report first 1 own ; minus 1 target")
    ('1', '2')
    >>> [desk.say(word) for word in ("do begin 7", "do shut", "do take 0 by 3", "figures", "left 0", "goals")]
    ['0', '-', '1', '0: 4', '4', 'changed moved']
"""


class Examples(unittest.TestCase):
    def test_examples(self):
        examples = doctest.DocTestParser().get_doctest(EXAMPLES, {}, "DOC.md", None, None)
        results = doctest.DocTestRunner(verbose=False).run(examples)
        self.assertEqual((results.attempted, results.failed), (31, 0))


if __name__ == "__main__":
    unittest.main()
