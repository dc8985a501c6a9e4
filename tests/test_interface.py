"""The interface: names, parameters with their defaults, and what kind each thing is."""

import unittest
from importlib import import_module
from inspect import isclass, isfunction, signature

FUNCTIONS = {
    "names": ("is_whole(thing, low=None, high=None); is_name(thing, most); is_number(thing); is_ending(thing); "
              "ending_from(thing); number_rank(number)"),
    "rulings": "check_rules(many, rules); closure_of(rules); has_ring(rules)",
    "tongues": "check_role(tongue, role); check_stock(tongue, stock); check_frame(tongue, frame)",
    "patterns": "check_pattern(tongue, frame, pattern); plain_pattern(tongue, frame); row_of_roles(pattern)",
    "speaking": ("pattern_of(saying); saying_of(tongue, frame, pattern); plain_saying(tongue, frame); "
                 "has_same_roles(saying, other)"),
    "turning": ("check_turn(tongue, turn); turned_tongue(tongue, turn); turned_pattern(tongue, turn, pattern); "
                "turned_saying(saying, turn); with_stems(saying, stems)"),
    "tonguetext": "ending_text(ending); tongue_text(tongue); tongue_from(text)",
    "sayingtext": "saying_text(saying); saying_from(tongue, text)",
    "heardtext": "heard_text(tongue, heard); heard_from(tongue, text)",
    "shown": ("shown_of(tongue, frame, pattern); bearers(tongue, stock, ending); "
              "check_things(tongue, frame, things, number); hide_endings(things, places)"),
    "flat": ("flat_readings(tongue, frame, things, number); count_flat(tongue, frame, things, number); "
             "role_rows(tongue, frame, things, number); first_two(tongue, frame, things, number); "
             "sure_role(tongue, frame, things, number, place)"),
    "sayable": ("all_patterns(tongue, frame); all_shown(tongue, frame); count_patterns(tongue, frame); "
                "most_rows(tongue, frame); asking_lots(tongue, frame, things, number)"),
    "heard": ("heard_of(saying); check_heard(tongue, heard, most=14); swallow(heard, places); depths_of(saying); "
              "roles_heard(saying)"),
    "readings": ("shapes_of(tongue, heard); readings_of(tongue, heard); count_readings(tongue, heard); "
                 "two_readings(tongue, heard); why_sure(tongue, heard, place)"),
}

CLASSES = {
    "stocks": ("Stock(name, table)", "borne endings", "ending_for(role, number)"),
    "frames": ("Frame(name, nouns, clause=None, agreed=None)", "slots", ""),
    "tongues": ("Tongue(roles, stocks, frames, rules=(), verbs='last')", "closure",
                "is_ahead(role, other); are_beside(role, other); ending_at(stock, role, number); "
                "with_rule(ahead, behind); without_rule(ahead, behind); with_rules(rules); with_stock(stock, table); "
                "with_ending(stock, role, number, ending); with_agreed(frame, agreed); with_verbs(verbs)"),
    "sayings": ("Saying(tongue, frame, said)", "depth size inner", "noun_items()"),
}

RESULTS = {"flat": ("Sure(role)", "Two(one, other)"), "sayable": ("Most(many, things, number)",)}


def told(text):
    return [tuple(part.strip().rstrip(")").split("(", 1)) for part in text.split(";") if part.strip()]


def written(call, own):
    found = [str(parameter) for parameter in signature(call).parameters.values()]
    return ", ".join(found[1:] if own else found)


class InterfaceTest(unittest.TestCase):
    def test_functions(self):
        for name, text in FUNCTIONS.items():
            module = import_module(f"looseorder.{name}")
            for function, parameters in told(text):
                call = getattr(module, function)
                self.assertTrue(isfunction(call), function)
                self.assertEqual(call.__module__, module.__name__, function)
                self.assertEqual(written(call, False), parameters, function)

    def test_classes(self):
        for name, (head, properties, methods) in CLASSES.items():
            self.check_class(name, head, properties, methods)
        for name, heads in RESULTS.items():
            for head in heads:
                self.check_class(name, head, "", "")

    def check_class(self, name, head, properties, methods):
        module = import_module(f"looseorder.{name}")
        told_name, parameters = told(head.replace("=()", "=NONE"))[0]
        made = getattr(module, told_name)
        self.assertTrue(isclass(made))
        self.assertEqual(made.__module__, module.__name__)
        self.assertEqual(written(made.__init__, True), parameters.replace("NONE", "()"))
        self.assertIn("__eq__", vars(made))
        for attribute in properties.split():
            self.assertIsInstance(vars(made)[attribute], property, attribute)
        for method, more in told(methods):
            self.assertTrue(isfunction(vars(made)[method]), method)
            self.assertEqual(written(vars(made)[method], True), more, method)


if __name__ == "__main__":
    unittest.main()
