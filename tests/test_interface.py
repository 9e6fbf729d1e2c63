import importlib
import inspect
import unittest

LISTED = {
    "errors": "HalfError UnknownName TooMany TooGreat OutOfRange WrongMark WrongSize NotAFunction NoEdge BadText "
              "NameTaken NothingToUndo NothingToRedo",
    "sayings": "is_name:1 is_saying:1 words_in:1 depth_of:1 marks_in:1 unknowns_of:1 occurrences:2 put_for:3 "
               "used_times:2",
    "values": "is_value:1 fraction:2 compared:2 denominator_of:1 value_at:3 given_by:3",
    "forms": "is_form:2 form_at:2 faces:1 summed:2",
    "questions": "name_form:2 not_form:1 question_of:3 form_by_side:4",
    "cells": "least_on:2 emptiness:2 changes_sign:2",
    "trees": "pieces:1 forms_taken:2",
    "validity": "is_valid:1 validity:1 is_validity:2 below_one:1",
    "likeness": "are_alike:2 likeness:2 is_likeness:3 parting:2 is_parting:3",
    "partings": "denominator_bound:2 least_parting:2",
    "web": "value_forms:2 web_of:1 corners_of:1 corner_chain:1 first_difference:2 extremes:1",
    "breaks": "breaks_of:1",
    "follow": "least_uses:2 first_against:2 follow_certificate:2 is_follow_certificate:3",
    "ladders": "is_ladder:1 ladder_of:1 written_out:1 ladder_at:3",
    "regions": "in_region:2 yes_region:1 saying_of_region:2",
    "shadows": "shadow_of:2 sure_part_of:2 saying_of_stretches:2 word_between:2",
    "meshes": "Mesh",
    "chains": "failing_chains:2 fails_in_chain:3 failing_point:3 valid_chains:1 yes_chains:1",
    "toldback": "told_heights:3 settled_heights:2 ladder_difference:2",
    "outlines": "is_outline:1 told_outline:2 outline_of:1",
    "tops": "told_tops:2 tops_at:2",
    "tables": "table_of:3 told_table:3 table_count:2",
    "chainsets": "told_chains:2 told_multiples:2 ladder_valid_chains:1 ladder_yes_chains:1",
    "orders": "order_value:3 order_types:1 order_type_of:1 raised_type:1 point_of_type:1 order_level:3 order_valid:1 "
              "order_alike:2 order_follows:2 order_parting:2 order_valid_in:2 order_steps:1",
    "orderwords": "least_without:2 greatest_without:2 order_word:2 order_word_in:3",
    "ordertables": "order_table:1 is_order_table:2 order_told:2 order_count:1 order_count_in:2 order_numbered:2 "
                   "order_number:2",
    "products": "product_grade:3 product_length:3 product_point:1 cases_of:1",
    "productvalid": "product_pieces:2 is_product_valid:1 product_validity:1 is_product_validity:2 "
                    "are_product_alike:2 product_parting:2",
    "productfollows": "product_use:2 product_derivation:2 is_product_derivation:3 product_gap:2",
    "producttables": "product_table:2 is_product_table:2 saying_of_table:2",
    "grades": "is_grade:2 compared_grades:2 chain_given:4 chain_value:4",
    "chaintrees": "chain_valid:1 chain_parting:1 chain_certificate:1 chain_holds:2 chain_valid_in:2",
    "carried": "from_point:1 from_order:1 from_lengths:2 closed_up:1 into_sums:3",
    "terms": "is_term:1 term_unknowns:1 term_row:4",
    "groups": "is_never_above:2 are_terms_alike:2 never_above:2 shows_never_above:3 above_numbers:2",
    "termsayings": "term_of:1 length_term:1 halves:3 equation_sayings:4",
    "termtables": "term_table:2 is_term_table:2 term_of_table:2",
    "means": "mean_of:1 product_mean:2 distance_of:2 mean_with:3",
    "shares": "share_from:2 yes_share:1 levels_of:1 grid_sum:2",
    "texts": "saying_text:1 value_text:1 point_text:2 read_saying:1 read_value:1",
    "book": "Book",
    "shown": "answer_to:1 certified:1 is_certified:3",
    "desk": "Desk",
}
METHODS = {
    ("meshes", "Mesh"): "nodes:1 tiles:1 cuts:1 cut:3 undo:1 weights:2 numbers:2 is_settled:2 settle:2 value:3 mean:2",
    ("book", "Book"): "hold:2 drop:2 undo:1 redo:1 held:1 names:1 together:1 is_possible:1 range_of:2 answer:2 uses_for:2 "
                      "tried:3 tried_within:4 __contains__:2 __iter__:1 __eq__:2 __enter__:1 __exit__:4",
    ("desk", "Desk"): "line:2",
}


class Interface(unittest.TestCase):
    def test_each_name_is_defined_in_its_file(self):
        for file, names in LISTED.items():
            module = importlib.import_module("halftruths." + file)
            for entry in names.split():
                name, _, count = entry.partition(":")
                thing = getattr(module, name)
                self.assertEqual(thing.__module__, module.__name__)
                if count:
                    self.assertTrue(inspect.isfunction(thing))
                    self.assertEqual(len(inspect.signature(thing).parameters), int(count), name)
                else:
                    self.assertTrue(inspect.isclass(thing))

    def test_each_method_is_defined_in_its_class(self):
        for (file, name), methods in METHODS.items():
            found = getattr(importlib.import_module("halftruths." + file), name)
            for entry in methods.split():
                method, _, count = entry.partition(":")
                self.assertIn(method, vars(found))
                self.assertEqual(len(inspect.signature(vars(found)[method]).parameters), int(count), method)
