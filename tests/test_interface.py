import inspect
import unittest

from slipseen import counts, making, notes, schemes, slips

ARGUMENTS = (
    (schemes, "state_after", ["scheme", "figures"]),
    (schemes, "good", ["scheme", "figures"]),
    (schemes, "checks", ["scheme", "figures"]),
    (schemes, "closing", ["scheme"]),
    (slips, "slips", ["scheme", "kind", "figures"]),
    (slips, "unseen", ["scheme", "kind"]),
    (counts, "good_count", ["scheme", "length"]),
    (counts, "missed", ["scheme", "kind", "length"]),
    (making, "weighted", ["base", "weights", "modulus"]),
    (making, "both", ["scheme", "other"]),
    (making, "parted", ["scheme", "other"]),
    (notes, "shown", ["scheme"]),
    (notes, "read", ["text"]),
)


class Interface(unittest.TestCase):
    def test_names_and_arguments(self):
        for file, name, arguments in ARGUMENTS:
            with self.subTest(name):
                parameters = inspect.signature(getattr(file, name)).parameters
                self.assertEqual(list(parameters), arguments)
                self.assertEqual({value.default for value in parameters.values()}, {inspect.Parameter.empty})


if __name__ == "__main__":
    unittest.main()
