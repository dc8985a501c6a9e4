"""The interface: names, parameters with their defaults, and what kind each thing is."""

import unittest
from importlib import import_module
from inspect import Parameter, isclass, isfunction, isgeneratorfunction, signature
from pathlib import Path

from support import Sayable

FUNCTIONS = {
    "names": ("is_whole(thing, low=None, high=None); is_name(thing, most); is_number(thing); is_ending(thing); "
              "ending_from(thing); number_rank(number)"),
    "rulings": "check_rules(many, rules); closure_of(rules); has_ring(rules)",
    "tongues": "check_role(tongue, role); check_stock(tongue, stock); check_frame(tongue, frame)",
    "patterns": "check_pattern(tongue, frame, pattern); plain_pattern(tongue, frame); row_of_roles(pattern)",
    "speaking": ("pattern_of(saying); saying_of(tongue, frame, pattern); plain_saying(tongue, frame); "
                 "has_same_roles(saying, other)"),
    "turning": ("check_turn(tongue, turn); turned_tongue(tongue, turn); turned_pattern(tongue, turn, pattern); "
                "turned_saying(saying, turn); with_stems(saying, stems)"),
    "tonguetext": "ending_text(ending); tongue_text(tongue); tongue_from(text)",
    "sayingtext": "saying_text(saying); saying_from(tongue, text)",
    "heardtext": "heard_text(tongue, heard); heard_from(tongue, text)",
    "shown": ("shown_of(tongue, frame, pattern); bearers(tongue, stock, ending); "
              "check_things(tongue, frame, things, number); hide_endings(things, places)"),
    "flat": ("flat_readings(tongue, frame, things, number); count_flat(tongue, frame, things, number); "
             "role_rows(tongue, frame, things, number); first_two(tongue, frame, things, number); "
             "sure_role(tongue, frame, things, number, place)"),
    "sayable": ("all_patterns(tongue, frame); all_shown(tongue, frame); count_patterns(tongue, frame); "
                "most_rows(tongue, frame); asking_lots(tongue, frame, things, number)"),
    "heard": ("heard_of(saying); check_heard(tongue, heard, most=14); swallow(heard, places); depths_of(saying); "
              "roles_heard(saying)"),
    "readings": ("shapes_of(tongue, heard); readings_of(tongue, heard); count_readings(tongue, heard); "
                 "two_readings(tongue, heard); why_sure(tongue, heard, place)"),
    "orderings": "sayings_of(tongue, frame, nouns, inner=None); count_sayings(tongue, frame)",
    "coincide": ("coinciding(tongue, frame); coinciding_couples(tongue, frame); exchanges_of(tongue); "
                 "first_exchange(tongue); clear_frames(tongue); exchange_fault(tongue, exchange); "
                 "exchange_patterns(tongue, exchange)"),
    "counts": "check_counts(tongue, counts); counts_used(tongue, frame, pattern)",
    "rings": ("led_back(couples, pairs); ring_fault(tongue, ring, counts=None); ring_patterns(tongue, ring); "
              "taken_couples(tongue, frame); ring_taking(tongue, frame, role, goal); sure_nouns(tongue, frame)"),
    "closed": ("closed_ring(tongue, counts); spoiling_counts(tongue); greatest_counts(tongue, counts=None)"),
    "books": ("count_rows(size, book); parting_of(size, one, other); parting_fault(size, one, other, parting); "
              "least_book(size, book)"),
    "orders": ("orders_of(tongue, frame); how_many_orders(tongue, frame); check_order(tongue, frame, order); "
               "order_place(tongue, frame, order); order_at(tongue, frame, place); "
               "couples_apart(tongue, frame, one, other); way_of_orders(tongue, frame, one, other); "
               "order_way_fault(tongue, frame, one, other, way)"),
    "chains": "check_lot(tongue, lot); widest(tongue, lot); wide_fault(tongue, lot, wide)",
    "endings": ("conflict_web(tongue, stock); fewest_endings(tongue, stock); fewest_for_numbers(tongue, stock); "
                "with_fewest(tongue, numbers=False)"),
    "needed": ("all_coinciding(tongue); rules_needed(tongue); book_fault(tongue, book); all_least_books(tongue); "
               "needless_rules(tongue); fewest_kept(tongue)"),
    "freest": "freest(tongue); freest_in(tongue, frame)",
    "trades": "can_trade(size); trade_tongue(size, endings, rules); trade_of(tongue, stock)",
    "doubts": ("doubtful_roles(tongue, frame); first_doubt(tongue); same_numbers(tongue); same_fault(tongue, same); "
               "same_patterns(tongue, same); told_numbers(tongue, frame, things, number)"),
    "agreeing": ("with_agreement(tongue, choices); without_agreement(tongue); least_agreement(tongue); "
                 "count_agreements(tongue); is_saved(tongue, frame, things, number)"),
    "articles": ("check_article(tongue, stock, rows); with_article(tongue, stock, rows); "
                 "article_web(tongue, stock, wholly=False); least_articles(tongue, stock, wholly=False); "
                 "article_lot(tongue, stock, wholly=False); articles_fault(tongue, stock, wholly, articles)"),
    "swallowing": ("first_swallowed(tongue, hidden); is_order_alone(tongue); swallowed_fault(tongue, swallowed); "
                   "swallowed_patterns(tongue, swallowed)"),
    "rolelots": ("lot_readings(tongue, frame, things, number, lot); swallow_lot(tongue, frame, pattern, lot); "
                 "first_in_lot(tongue, lot); greatest_lots(tongue)"),
    "stillsure": ("sure_roles(tongue, frame, things, number); is_left_sure(tongue, frame, pattern, places); "
                  "most_swallowed(tongue, frame, pattern)"),
    "blocks": ("blocks_of(tongue, heard); chain_of(block); span_of(block); roads_of(tongue, heard); "
               "talk_parts(tongue, pieces)"),
    "nested": ("things_of(tongue, heard, block); count_nested(tongue, heard); unsure_depths(tongue, heard); "
               "most_nested(tongue, depth); with_clause(outer, inner); chain_of_saying(saying); "
               "nest_frames(tongue, frames)"),
    "waiting": ("waiting_of(tongue, heard); peak_of(tongue, heard); least_waiting(saying); "
                "waiting_fault(saying, other); memory_needed(tongue, depth); growth_of(tongue)"),
    "longsayings": ("count_outlines(tongue, depth); all_outlines(tongue, depth); mirrored_tongue(tongue); "
                    "mirrored_saying(saying); free_pattern(tongue)"),
    "habits": ("check_habit(tongue, habit); is_row_ahead(habit, row, other); "
               "taken_pattern(tongue, habit, frame, things, number); "
               "habit_sorted(tongue, habit, frame, things, number); taken(tongue, habit, heard); "
               "is_understood(tongue, habit, saying)"),
    "safety": ("misheard_patterns(misheard); misheard_order(tongue, habit, frame, order); "
               "safe_orders(tongue, habit, frame); serving_habits(tongue, frame, order); "
               "first_order(tongue, habit, frame)"),
    "foreign": ("check_pair(one, other); foreign_readings(one, other, frame, pattern); "
                "heard_word(one, other, frame, pattern); mistaken(one, other); misheard_fault(one, other, misheard); "
                "right_reading(one, other); pair_word(one, other); least_changes(one, other, pool)"),
    "meeting": "safe_with(one, hearer, frame); safe_for_all(one, hearers, frame); joined_tongue(one, other)",
    "wearing": "wear_tongue(tongue, wear); least_wear(tongue); wear_between(one, other)",
    "changes": "check_changes(tongue, changes); make_changes(tongue, changes)",
    "ages": "unclear_ages(ages); first_unclear_age(ages); ages_of(ages, remarks); sure_ages(ages, remarks)",
    "helps": "helped_tongues(ages, pool, pick); least_helps(ages, pool)",
    "elders": "common_elder(one, other); common_heir(one, other)",
    "lessons": ("lesson_of(tongue, frame, pattern); ask_teacher(tongue, frame, row); does_fit(lessons, tongue); "
                "sure_rules(lessons); barred_rules(lessons)"),
    "learning": ("meanings_of(lessons, frame, things, number); can_be_clear(lessons); surely_clear(lessons); "
                 "next_question(lessons, frame)"),
    "wishes": "check_wishes(tongue, wishes); broken_wish(tongue, wishes); broken_fault(tongue, wishes, broken)",
    "mends": "find_mends(tongue, pool, wishes); find_spoilers(tongue, pool, wishes)",
}

# Functions with a parameter that is passed by keyword alone.
KEYWORD_ONLY = {"with_fewest": ["numbers"]}

GENERATORS = ("flat_readings all_patterns all_shown readings_of sayings_of exchanges_of orders_of "
              "all_least_books lot_readings all_outlines safe_orders serving_habits safe_with").split()

CLASSES = {
    "stocks": ("Stock(name, table)", "borne endings", "ending_for(role, number)"),
    "frames": ("Frame(name, nouns, clause=None, agreed=None)", "slots", ""),
    "tongues": ("Tongue(roles, stocks, frames, rules=(), verbs='last')", "closure",
                "is_ahead(role, other); are_beside(role, other); ending_at(stock, role, number); "
                "with_rule(ahead, behind); without_rule(ahead, behind); with_rules(rules); with_stock(stock, table); "
                "with_ending(stock, role, number, ending); with_agreed(frame, agreed); with_verbs(verbs)"),
    "sayings": ("Saying(tongue, frame, said)", "depth size inner", "noun_items()"),
    "meeting": ("Hearer(tongue, habit)", "", ""),
    "wearing": ("Wear(rows)", "", "led_part(part); led_ending(ending); then(other)"),
    "ages": ("Ages(tongue, changes)", "", "tongue_at(age); walk_ages(); __len__()"),
    "lessons": ("Lessons(tongue, rows)", "books known", "with_lesson(lesson); __len__()"),
    "mends": ("Mends(least, losses)", "needed", ""),
}
# Of all classes this one alone is not compared.
BENCH = ("Bench(tongue)", "put(change); take_back(number); broken_now(wishes); hear_now(frame, things, number); "
         "trial(); tried(call); __len__(); __iter__()")

RESULTS = {"flat": ("Sure(role)", "Two(one, other)"), "sayable": ("Most(many, things, number)",),
           "coincide": ("Exchange(frame, role, other, stock, number, mate)",), "rings": ("Ring(frame, steps)",),
           "books": ("Parting(rule, row)",), "chains": ("Wide(lot, chains)",),
           "endings": ("Fewest(least, colours)", "FewestPairs(least, pairs)"),
           "needed": ("Needed(least, rules)",), "freest": ("Freest(most, rules)",),
           "doubts": ("SameNumber(frame, role, stock)",),
           "agreeing": ("Choices(agreed)", "TwoDoubtful(frame, role, other)"),
           "articles": ("Articles(least, rows)",), "swallowing": ("Swallowed(exchange, hidden)",),
           "safety": ("Misheard(frame, order, steps)",), "foreign": ("Missed(frame, what, detail)",),
           "wearing": ("WornOut(wear, exchange)",), "ages": ("Unclear(age, exchange)",),
           "helps": ("Helps(least, losses)",), "elders": ("Elder(tongue, wear, mate)", "Heir(tongue, wear, mate)"),
           "learning": ("Doubt(tongue, exchange)", "Question(row, kept, broken)"), "wishes": ("Broken(index, why)",),
           "mends": ("Mends(least, losses)", "Spoiler(pick, added, broken)")}


def told(text):
    return [tuple(part.strip().rstrip(")").split("(", 1)) for part in text.split(";") if part.strip()]


def written(call, own):
    found = [str(parameter) for parameter in signature(call).parameters.values()]
    return ", ".join(found[1:] if own else found)


class InterfaceTest(unittest.TestCase):
    def test_functions(self):
        for name, text in FUNCTIONS.items():
            module = import_module(f"looseorder.{name}")
            for function, parameters in told(text):
                call = getattr(module, function)
                self.assertTrue(isfunction(call), function)
                self.assertEqual(call.__module__, module.__name__, function)
                self.assertEqual(written(call, False), parameters, function)
                alone = [parameter.name for parameter in signature(call).parameters.values()
                         if parameter.kind == Parameter.KEYWORD_ONLY]
                self.assertEqual(alone, KEYWORD_ONLY.get(function, []), function)
                self.assertEqual(isgeneratorfunction(call), function in GENERATORS, function)

    def test_results_keep_what_they_are_given(self):
        for name, heads in RESULTS.items():
            for head in heads:
                self.check_result(getattr(import_module(f"looseorder.{name}"), head.split("(")[0]), head)

    def check_result(self, made, head):
        fields = told(head)[0][1].split(", ")
        given = [[field, object()] for field in fields]
        result = made(*given)
        for field, thing in zip(fields, given):
            self.assertIs(getattr(result, field), thing)
            self.assertEqual(vars(result).keys(), set(fields))
        self.assertEqual(result, made(*given))
        self.assertFalse(result != made(**dict(zip(fields, given))))
        for at in range(len(fields)):
            unlike = made(*given[:at], "unlike", *given[at + 1:])
            self.assertNotEqual(result, unlike, fields[at])
            self.assertNotEqual(unlike, result, fields[at])
        for thing in (None, tuple(given), *given, Sayable(), type("Other", (), vars(result))()):
            self.assertFalse(result == thing)
            self.assertTrue(thing != result)

    def test_classes(self):
        for name, (head, properties, methods) in CLASSES.items():
            self.check_class(name, head, properties, methods)
        for name, heads in RESULTS.items():
            for head in heads:
                self.check_class(name, head, "", "")

    def test_bench(self):
        module = import_module("looseorder.bench")
        name, parameters = told(BENCH[0])[0]
        made = getattr(module, name)
        self.assertEqual((made.__module__, written(made.__init__, True)), (module.__name__, parameters))
        for method, more in told(BENCH[1]):
            self.assertTrue(isfunction(vars(made)[method]), method)
            self.assertEqual(written(vars(made)[method], True), more, method)

    def test_generator_methods(self):
        self.assertTrue(isgeneratorfunction(import_module("looseorder.sayings").Saying.noun_items))
        self.assertTrue(isgeneratorfunction(import_module("looseorder.ages").Ages.walk_ages))

    def test_all_files_are_told(self):
        """All files of the interface but those of errors and of the bench, which are asked by themselves."""
        package = Path(import_module("looseorder").__file__).parent
        names = {path.stem for path in package.glob("*.py")} - {"__init__", "errors", "bench"}
        self.assertEqual(names, {*FUNCTIONS, *CLASSES, *RESULTS})

    def check_class(self, name, head, properties, methods):
        module = import_module(f"looseorder.{name}")
        told_name, parameters = told(head.replace("=()", "=NONE"))[0]
        made = getattr(module, told_name)
        self.assertTrue(isclass(made))
        self.assertEqual(made.__module__, module.__name__)
        self.assertEqual(written(made.__init__, True), parameters.replace("NONE", "()"))
        self.assertIn("__eq__", vars(made))
        for attribute in properties.split():
            self.assertIsInstance(vars(made)[attribute], property, attribute)
        for method, more in told(methods):
            self.assertTrue(isfunction(vars(made)[method]), method)
            self.assertEqual(written(vars(made)[method], True), more, method)


if __name__ == "__main__":
    unittest.main()
