import unittest

from sumgrove import errors, refusals


class RefusalsTest(unittest.TestCase):
    def check(self, error, **attributes):
        self.assertIsInstance(error, ValueError)
        self.assertEqual(error.__class__.__bases__, (errors.GroveError,))
        self.assertEqual(vars(error), attributes)

    def test_attributes(self):
        self.check(refusals.InvalidGroup(-1), index_of_deed=-1)
        self.check(refusals.GroupRefused(3, "short"), index_of_deed=3, word="short")
        self.check(refusals.NoSuchEpoch(7), epoch=7)
        self.check(refusals.CutOff(7), epoch=7)
        self.check(refusals.InvalidShelf(21), most=21)
        self.check(refusals.BookRefused(1, 2, "held"), place=1, index_of_deed=2, word="held")
        self.check(refusals.InvalidValue(-1), value=-1)
        self.check(refusals.SignedAlready(4), epoch=4)
        self.check(refusals.InvalidLine("what"), body="what")
        self.check(refusals.NoAccount("a"), name="a")

    def test_attributes_by_keyword(self):
        self.check(refusals.InvalidGroup(index=2), index_of_deed=2)
        self.check(refusals.GroupRefused(index=3, word="short"), index_of_deed=3, word="short")
        self.check(refusals.NoSuchEpoch(epoch=7), epoch=7)
        self.check(refusals.CutOff(epoch=7), epoch=7)
        self.check(refusals.InvalidShelf(most=0), most=0)
        self.check(refusals.BookRefused(place=1, index=2, word="held"), place=1, index_of_deed=2, word="held")
        self.check(refusals.InvalidValue(value=-1), value=-1)
        self.check(refusals.SignedAlready(epoch=4), epoch=4)
        self.check(refusals.InvalidLine(body="what"), body="what")
        self.check(refusals.NoAccount(name="a"), name="a")

    def test_order_of_attributes(self):
        self.assertEqual(list(vars(refusals.GroupRefused(3, "short"))), ["index_of_deed", "word"])
        self.assertEqual(list(vars(refusals.BookRefused(1, 2, "held"))), ["place", "index_of_deed", "word"])

    def test_one_message(self):
        for error in (refusals.InvalidRules("a message"), refusals.InvalidNotes("a message"),
                      refusals.TooManyEpochs("a message"), refusals.InvalidHouse("a message"),
                      refusals.BadStatement("a message")):
            self.check(error)
            self.assertEqual(str(error), "a message")


if __name__ == "__main__":
    unittest.main()
