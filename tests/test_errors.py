import unittest

from beamload.errors import BeamError, NoBeam, NoLoad, NoNumber, OffBeam

REFUSALS = (NoNumber, NoLoad, NoBeam, OffBeam)


class TestErrors(unittest.TestCase):
    def test_beam_error_is_a_value_error(self):
        self.assertEqual(BeamError.__bases__, (ValueError,))

    def test_each_refusal_stands_under_beam_error(self):
        for refusal in REFUSALS:
            with self.subTest(refusal=refusal.__name__):
                self.assertTrue(issubclass(refusal, BeamError))
                self.assertTrue(issubclass(refusal, ValueError))
                self.assertFalse(issubclass(BeamError, refusal))

    def test_no_refusal_is_a_kind_of_another(self):
        for one in REFUSALS:
            for other in REFUSALS:
                with self.subTest(one=one.__name__, other=other.__name__):
                    self.assertEqual(issubclass(one, other), one is other)

    def test_names(self):
        names = [refusal.__name__ for refusal in REFUSALS]
        self.assertEqual(names, ["NoNumber", "NoLoad", "NoBeam", "OffBeam"])
        self.assertEqual(BeamError.__name__, "BeamError")

    def test_each_is_raised_and_taken_as_a_beam_error(self):
        for refusal in REFUSALS:
            with self.subTest(refusal=refusal.__name__):
                with self.assertRaises(BeamError) as caught:
                    raise refusal("refused")
                self.assertIs(type(caught.exception), refusal)


if __name__ == "__main__":
    unittest.main()
