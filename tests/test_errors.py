import unittest

from finitestructures.errors import StructureFault, TextFault


class Errors(unittest.TestCase):
    def test_faults_stand_below_one_another(self):
        self.assertTrue(issubclass(StructureFault, ValueError))
        self.assertTrue(issubclass(TextFault, StructureFault))
        self.assertIsNot(TextFault, StructureFault)

    def test_a_fault_has_its_place_when_it_is_made(self):
        for place in (0, 7, 120):
            self.assertEqual(TextFault(place).place, place)

    def test_a_fault_is_caught_by_each_class_above_it(self):
        for kind in (TextFault, StructureFault, ValueError):
            with self.assertRaises(kind) as caught:
                raise TextFault(5)
            self.assertEqual(caught.exception.place, 5)
            self.assertIsInstance(str(caught.exception), str)
