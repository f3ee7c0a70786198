import importlib
import inspect
import unittest

INTERFACE = {
    "webs": {"is_web": ["thing"], "ties": ["web"], "gone": ["web", "room", "way"], "seen": ["web", "room", "way"],
             "back_way": ["web", "room", "way"], "way_to": ["web", "one", "other"]},
    "numbering": {"renumbered": ["web", "numbers"], "told_from": ["web", "room"],
                  "same_web": ["one", "a", "other", "b"]},
    "parting": {"parting": ["one", "a", "other", "b"], "shows_parting": ["one", "a", "other", "b", "way"],
                "seen_with_stone": ["web", "room", "way"], "parting_with_stone": ["one", "a", "other", "b"]},
    "pairing": {"pairing": ["one", "a", "other", "b"], "shows_pairing": ["one", "a", "other", "b", "pairs"]},
    "kinds": {"kinds": ["web"], "kinds_by": ["web", "steps"]},
    "folding": {"folded": ["web"], "folds_by": ["web"], "is_fold": ["big", "small", "numbers"], "sheets": ["web"],
                "can_be_learnt": ["web", "room"]},
    "spreading": {"spread": ["web", "many", "turns"]},
    "walker": {"Walker": ["web", "room", "stones"], "onlooker": ["walker"]},
    "learning": {"view": ["walker", "deep"], "learnt": ["walker", "most"], "whereabouts": ["walker", "web"]},
    "stonemaps": {"mapped": ["walker"], "counted": ["walker"], "mapped_round": ["walker", "most"]},
    "evenwebs": {"even_webs": ["rooms", "doors"], "sees_all": ["web", "room", "way"]},
    "seeing": {"missed": ["rooms", "doors", "way"], "shows_missed": ["rooms", "doors", "way", "web"],
               "all_seeing": ["rooms", "doors"], "least_seeing": ["web"]},
    "stories": {"story_of": ["web", "room", "way"], "fits": ["web", "room", "story"], "stands": ["web", "story"]},
    "fitting": {"fitting": ["story", "most"], "fewest": ["story"]},
    "crossing": {"crossed": ["web", "one", "other", "about"], "put_right": ["web", "room", "story"]},
    "chart": {"Chart": ["mark", "doors"]},
    "meeting": {"is_rule": ["web", "rule"], "meet_at": ["web", "a", "b", "rule"], "meeting_rule": ["web"],
                "meeting": ["web", "a", "b"], "shows_never": ["web", "a", "b", "pairs"]},
    "home": {"way_home": ["web", "story"], "telling_way": ["web", "rooms"]},
    "sheet": {"run": ["text"]},
}
METHODS = {
    ("walker", "Walker"): {"here": [], "go": ["door"], "lay": [], "take": [], "in_hand": [], "steps": []},
    ("chart", "Chart"): {"went": ["door", "came", "mark", "doors"], "here": [], "rooms": [], "sketch": [],
                         "open_doors": [], "next_way": [], "way_by": ["mark"], "forget": ["mark", "door"],
                         "whole": []},
}


class InterfaceTest(unittest.TestCase):
    def test_names_and_arguments(self):
        for module, functions in INTERFACE.items():
            found = importlib.import_module("stonewalker." + module)
            for name, arguments in functions.items():
                function = getattr(found, name)
                self.assertEqual(function.__module__, "stonewalker." + module)
                self.assertEqual(list(inspect.signature(function).parameters), arguments, name)

    def test_methods_and_arguments(self):
        for (module, name), methods in METHODS.items():
            made = getattr(importlib.import_module("stonewalker." + module), name)
            for method, arguments in methods.items():
                found = inspect.signature(getattr(made, method)).parameters
                self.assertEqual(list(found)[1:], arguments, method)


if __name__ == "__main__":
    unittest.main()
