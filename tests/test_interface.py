"""All names that the document's interface lists, with as many arguments as it tells."""

import importlib
import inspect
import unittest

from weblayers import errors
from weblayers.desk import Desk
from weblayers.looms import Loom

FUNCTIONS = {
    "webs": {"is_web": 1, "is_part": 2, "weight": 2, "cost": 2, "share": 2, "degree": 3},
    "layings": {"is_laying": 2, "loads": 2, "heights": 2, "is_level": 2},
    "densest": {"densest": 1, "least_densest": 1, "bearing": 1},
    "layers": {"layers": 1, "level_heights": 1, "level_laying": 1},
    "measures": {"is_measure": 1, "worth": 3},
    "roads": {"gone": 3, "to_level": 2},
    "strips": {"stripped": 1},
    "cores": {"cores": 1, "core_part": 2},
    "musts": {"densest_with": 2, "bearing_with": 2},
    "sizes": {"heaviest": 2, "bound": 2, "densest_sized": 3},
    "arrows": {"is_arrows": 1, "flow": 3, "square_share": 3, "thickest_flow": 1, "splits": 1},
    "checker": {"holds": 2},
    "papers": {
        "paper_densest": 2, "paper_heights": 1, "paper_layers": 1, "paper_leads": 2, "paper_core": 2, "paper_with": 2,
        "paper_size": 2, "paper_flow": 1, "paper_loom": 1,
    },
    "webtexts": {"show_web": 1, "read_web": 1, "show_arrows": 1, "read_arrows": 1, "show_number": 1},
}
METHODS = {Loom: {"put": 1, "take": 1, "threads": 0, "loads": 0, "web": 0, "thick": 0}, Desk: {"say": 1}}
FIELDS = {
    "NoWeb": None, "NoPart": None, "NoLaying": None, "NoMeasure": None, "NoRoad": "number", "NoSize": None,
    "NoArrows": None, "NoThread": None, "NoNumber": None, "NoText": "part", "NoCall": "row", "NoKept": "name",
}


class Interface(unittest.TestCase):
    def test_functions(self):
        for module, names in FUNCTIONS.items():
            told = importlib.import_module("weblayers." + module)
            for name, many in names.items():
                # Handed in by their places.
                inspect.signature(getattr(told, name)).bind(*range(many))
                with self.assertRaises(TypeError):
                    inspect.signature(getattr(told, name)).bind(*range(many + 1))

    def test_methods_are_the_classes_own(self):
        for kind, names in METHODS.items():
            for name, many in names.items():
                self.assertIn(name, vars(kind))
                inspect.signature(vars(kind)[name]).bind(*range(many + 1))
        inspect.signature(Loom).bind(1)
        inspect.signature(Desk).bind()

    def test_refusals(self):
        for name, field in FIELDS.items():
            kind = getattr(errors, name)
            self.assertEqual(kind.__bases__, (errors.WebError,))
            self.assertEqual(list(vars(kind("so"))), [] if field is None else [field])
        self.assertEqual(errors.WebError.__bases__, (ValueError,))


if __name__ == "__main__":
    unittest.main()
