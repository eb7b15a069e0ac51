import unittest

from sealchain.errors import NoNumber, NoRegister, NoText, NoWord, SealError

REFUSALS = [NoRegister, NoText, NoWord, NoNumber]


def made(refusal):
    return refusal(3) if refusal in (NoRegister, NoText) else refusal()


class TestErrors(unittest.TestCase):
    def test_seal_error_is_straight_under_value_error(self):
        self.assertEqual(SealError.__bases__, (ValueError,))

    def test_each_refusal_is_straight_under_seal_error(self):
        for refusal in REFUSALS:
            self.assertEqual(refusal.__bases__, (SealError,))

    def test_each_is_taken_as_itself_and_as_what_it_stands_under(self):
        for refusal in REFUSALS:
            for taken in (refusal, SealError, ValueError):
                with self.assertRaises(taken):
                    raise made(refusal)

    def test_none_is_taken_as_another(self):
        for refusal in REFUSALS:
            for other in REFUSALS:
                if other != refusal:
                    self.assertNotIsInstance(made(refusal), other)

    def test_at_is_what_it_was_made_with(self):
        for refusal in (NoRegister, NoText):
            for at in (0, 3, 60, None):
                self.assertEqual(refusal(at).at, at)
            self.assertEqual(refusal(at=5).at, 5)

    def test_at_belongs_to_each_object_by_itself(self):
        one, other = NoRegister(1), NoRegister(2)
        self.assertEqual((one.at, other.at), (1, 2))
        self.assertEqual(vars(one), {"at": 1})

    def test_at_must_be_told(self):
        for refusal in (NoRegister, NoText):
            self.assertRaises(TypeError, refusal)


if __name__ == "__main__":
    unittest.main()
