import unittest

from sumgrove import errors


class ErrorsTest(unittest.TestCase):
    def check(self, error, **attributes):
        self.assertIsInstance(error, errors.GroveError)
        self.assertEqual(error.__class__.__bases__, (errors.GroveError,))
        self.assertEqual(vars(error), attributes)

    def test_base_class(self):
        self.assertEqual(errors.GroveError.__bases__, (ValueError,))
        self.assertIsInstance(errors.GroveError("a message"), ValueError)

    def test_attributes(self):
        self.check(errors.InvalidSealer(2), modulus=2)
        self.check(errors.InvalidTree())
        self.check(errors.NoSuchName("a"), name="a")
        self.check(errors.NotShown("b"), name="b")
        self.check(errors.WrongRoot(7), root=7)
        self.check(errors.Unlike((2,), (3, 1)), first=(2,), second=(3, 1))
        self.check(errors.InvalidText(4, "word"), line=4, reason="word")

    def test_attributes_by_keyword(self):
        self.check(errors.InvalidSealer(modulus=2), modulus=2)
        self.check(errors.NoSuchName(name="a"), name="a")
        self.check(errors.NotShown(name="b"), name="b")
        self.check(errors.WrongRoot(root=7), root=7)
        self.check(errors.Unlike(first=(2,), second=(3, 1)), first=(2,), second=(3, 1))
        self.check(errors.InvalidText(line=4, reason="word"), line=4, reason="word")


if __name__ == "__main__":
    unittest.main()
