"""The interface: names, arguments and defaults as they stand in the document."""

import importlib
import inspect
import unittest

ARGUMENTS = {
    "spans": {"plus": "(one, other)", "minus": "(one, other)", "times": "(one, many)", "halved": "(one, shift)",
              "breadth": "(one)", "holds": "(one, number)", "within": "(one, other)"},
    "lattice": {"level_of": "(i, j, levels)", "places": "(high, wide, levels)"},
    "lifts": {"is_ladder": "(thing)", "ladder_of": "(name)", "neighbours": "(at, many, stride)",
              "raised": "(row, ladder, stride)", "lowered": "(row, ladder, stride)"},
    "lowering": {"lowered_spans": "(row, ladder, stride)", "lowered_breadths": "(row, ladder, stride)",
                 "needs": "(wanted, ladder, many, stride)"},
    "sheets": {"is_picture": "(thing)", "laid": "(picture, ladder, levels)",
               "opened": "(wave, ladder, levels, down=0)", "opened_spans": "(sheet, ladder, levels, down=0)",
               "opened_breadths": "(sheet, ladder, levels, down=0)", "thinned": "(sheet, k)"},
    "bitrows": {"planes_of": "(some)", "told": "(some, planes)"},
    "bitreading": {"read": "(bits, many, planes)", "ends": "(bits, many, planes)"},
    "streams": {"is_head": "(thing)", "coded": "(picture, ladder=None, levels=2)", "sheet_of": "(head, spans)"},
    "reader": {"Reader": "(head)"},
    "pieces": {"level": "(head, spans, k)", "cone": "(head, top, left, high, wide)",
               "piece": "(head, spans, top, left, high, wide)"},
    "cuts": {"bounds": "(head, plane)", "broad": "(head, bits, many)", "least": "(low, high, good)",
             "enough": "(head, bits, breadth)"},
    "sharing": {"share": "(streams, total)"},
    "packs": {"packed": "(bits)", "unpacked": "(letters)"},
    "texts": {"read_number": "(word)", "written": "(head, bits)", "read_text": "(text)"},
    "questions": {"Question": "()", "Size": "()", "Bits": "()", "Broad": "()", "At": "(i, j)", "Level": "(k)",
                  "Piece": "(top, left, high, wide)", "All": "()", "question": "(row)", "shown": "(sheet)",
                  "ask": "(text, row)"},
}
QUESTIONS = ("Question", "Size", "Bits", "Broad", "At", "Level", "Piece", "All")
READER_METHODS = {"feed": "(self, bits)", "many": "(self)", "is_whole": "(self)", "spans": "(self)", "seen": "(self)"}


class Interface(unittest.TestCase):
    def test_names_and_arguments(self):
        for module, names in ARGUMENTS.items():
            for name, arguments in names.items():
                with self.subTest(module=module, name=name):
                    thing = getattr(importlib.import_module("liftwave." + module), name)
                    self.assertEqual(str(inspect.signature(thing)), arguments)

    def test_the_readers_methods(self):
        reader = importlib.import_module("liftwave.reader").Reader
        for name, arguments in READER_METHODS.items():
            with self.subTest(name=name):
                self.assertEqual(str(inspect.signature(getattr(reader, name))), arguments)

    def test_the_questions_method(self):
        questions = importlib.import_module("liftwave.questions")
        for name in QUESTIONS:
            with self.subTest(name=name):
                self.assertEqual(str(inspect.signature(getattr(questions, name).answer)), "(self, head, bits, whole)")


if __name__ == "__main__":
    unittest.main()
