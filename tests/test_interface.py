"""Names, parameters and homes of all that the document's interface lists."""

import importlib
import inspect
import unittest

FUNCTIONS = {
    "kinds": {
        "is_integer": "thing", "is_quotient": "thing", "is_positive": "thing",
        "is_shapes": "many thing", "is_table": "many thing",
    },
    "quotients": {
        "plus": "one other", "minus": "one other", "times": "one other", "over": "one other",
        "is_less": "one other",
    },
    "sums": {"total": "row", "weighed": "row others", "least_of": "row", "greatest_of": "row"},
    "places": {
        "side_after": "side", "side_opposite": "side", "is_place": "many thing",
        "place_letter": "place",
    },
    "planchecker": {"lets_plan": "thing", "is_plan": "thing"},
    "ties": {
        "are_tied": "plan one other", "ties_of": "plan", "place_after": "plan picture place",
        "place_ahead": "plan picture place", "row_of": "plan side",
    },
    "faces": {"faces_of": "plan", "faces_at": "plan one other"},
    "sketches": {"read_sketch": "rows slant", "sketch_letters": "rows"},
    "plantexts": {"plan_line": "plan", "shapes_line": "shapes"},
    "planreadings": {"read_plan": "text", "read_shapes": "text"},
    "turnings": {"mirrored": "plan", "flipped": "plan", "turned": "plan", "renumbered": "plan order"},
    "settling": {"settled_order": "plan", "settled": "plan", "are_alike": "one other"},
    "lots": {"hangs_together": "plan lot", "lot_parts": "plan lot", "rim_of": "plan lot"},
    "rings": {"rings_of_three": "plan", "rings_of_four": "plan", "inside_of": "plan ring"},
    "emptying": {"emptied": "plan"},
    "insides": {
        "inner_plan": "plan ring", "shut_plan": "plan ring", "laid_in": "outer picture first inner",
    },
    "growing": {
        "parted": "plan picture first last", "can_join": "plan one other", "joined": "plan one other",
    },
    "tieturns": {
        "can_turn": "plan one other", "turned_tie": "plan one other", "taken_out": "plan picture",
    },
    "growths": {"growth_of": "plan", "grown": "steps"},
    "waykinds": {"is_way": "plan kind thing", "is_straight": "plan kind thing"},
    "straightways": {
        "straight_ways": "plan kind", "all_ways": "plan kind", "straightened": "plan kind way",
    },
    "twoways": {"holds_way": "plan kind lot", "two_ways": "plan lot"},
    "twochecker": {"lets_two": "plan lot thing"},
    "leastlots": {
        "meets_ways": "plan kind lot", "least_lots": "plan kind", "least_meeting": "plan kind",
    },
    "lengths": {
        "length_of": "table way", "shortest_way": "plan kind table", "aheads": "plan kind table",
    },
    "followings": {
        "followings": "plan kind", "way_through": "plan kind picture", "way_by": "plan kind one other",
    },
    "waytexts": {"way_line": "kind way"},
    "wayreadings": {"read_way": "text"},
    "tables": {"table_weight": "shapes table", "table_bar": "plan shapes table"},
    "streams": {
        "is_stream": "plan thing", "stream_amount": "stream", "stream_loads": "many stream",
        "stream_bar": "plan shapes stream",
    },
    "leastwidths": {"widths_of": "plan shapes", "height_of": "plan shapes", "heights_of": "plan shapes"},
    "hanging": {"hung": "plan shapes"},
    "points": {"points_in": "plan shapes", "specks": "plan shapes"},
    "walls": {
        "is_box": "thing", "is_hanging": "thing", "has_points": "wall", "sizes_in": "wall", "shapes_in": "filling",
    },
    "judging": {"lets_hung": "plan shapes thing"},
    "wallturns": {
        "mirrored_boxes": "wall", "flipped_boxes": "wall", "turned_boxes": "wall", "stretched": "wall factor",
    },
    "slices": {"level_slices": "wall", "upright_slices": "wall"},
    "slicepapers": {"slice_paper": "plan shapes"},
    "slicechecker": {"lets_slices": "plan shapes thing"},
    "borders": {"borders_of": "wall"},
    "crossings": {"crossings_of": "wall"},
    "readbacks": {"plan_in": "filling slant"},
    "piles": {"piled": "one other", "put_beside": "one other"},
    "cuts": {"free_heights": "wall", "free_abscissas": "wall", "cut_at": "wall height"},
    "boxjoins": {
        "makes_box": "wall one other", "joined_boxes": "wall one other",
        "parted_boxes": "wall picture how share",
    },
    "painting": {"painted": "wall rows columns"},
    "fates": {"fate_of": "plan picture", "fates_of": "plan"},
    "passages": {"passages_of": "plan ring", "rings_around": "plan picture"},
    "fatepapers": {"fate_paper": "plan picture"},
    "fatechecker": {"lets_fate": "plan picture thing"},
    "toldshapes": {
        "shapes_for": "plan kind way", "shapes_by": "plan kind one other", "point_shapes": "plan picture",
    },
    "placings": {"placings_of": "plan one other"},
    "brackets": {
        "bracket": "plan shapes others", "same_widths": "plan shapes others", "same_heights": "plan shapes others",
    },
    "reshaping": {"reshaped": "shapes picture shape", "rises": "plan shapes picture"},
    "stretches": {
        "is_stretches": "many thing", "lows_of": "stretches", "highs_of": "stretches", "lies_in": "stretches shapes",
    },
    "ranges": {"range_of": "plan stretches", "raised_height": "plan stretches count"},
    "ownfits": {"own_shape": "plan shapes picture height low high"},
    "pages": {"fitted": "plan stretches height"},
    "pagepapers": {"page_paper": "plan stretches height"},
    "pagechecker": {"lets_page": "plan stretches height thing"},
    "ringcases": {"ring_heights": "plan shapes ring", "ring_case": "plan shapes ring"},
    "layings": {"laid_boxes": "outer picture inner", "hung_by_ring": "plan shapes ring"},
    "ringtrees": {"ring_tree": "plan", "hung_by_tree": "plan shapes"},
    "liveevents": {"is_event": "thing", "is_log": "thing"},
    "replaying": {"replayed": "log"},
    "eventtexts": {"event_line": "event"},
    "eventreadings": {"read_event": "text"},
    "desk": {"at_desk": "live text"},
}
CLASSES = {
    "planclasses": {
        "Plan": {
            "__init__": "circles", "__eq__": "other", "__len__": "", "__contains__": "thing",
            "tied": "one other", "circle": "picture", "row": "side", "faces": "", "as_line": "",
        },
    },
    "wayclasses": {
        "Ways": {
            "__init__": "plan kind", "__len__": "", "__contains__": "thing", "through": "picture", "by": "one other",
            "shortest": "table", "holds": "lot",
        },
    },
    "hungclasses": {
        "Hung": {
            "__init__": "circles told", "__eq__": "other", "box": "picture", "meets": "one other", "fits": "thing",
        },
    },
    "fillclasses": {
        "Filled": {
            "__init__": "filling", "slices": "kind", "borders": "", "crossings": "", "plan_by": "slant", "shapes_told": "",
            "paint": "rows columns",
        },
    },
    "fateclasses": {
        "Fates": {"__init__": "circles", "fate": "picture", "shown_paper": "picture", "placings": "one other"},
    },
    "pageclasses": {
        "Page": {"__init__": "circles told", "fits": "height", "shapes_for": "height", "shown_paper": "height"},
    },
    "live": {
        "LiveHung": {
            "__init__": "circles told", "__eq__": "other", "__len__": "", "plan_now": "", "shapes_now": "", "height_now": "",
            "hung_now": "", "points_now": "", "fates_now": "", "reason_for": "event", "go": "event", "tried": "event",
            "do_all": "events keep", "undo": "steps", "log": "", "tally": "",
        },
    },
    "ringclasses": {"Rings": {"__init__": "plan", "inside": "ring", "around": "picture"}},
    "errors": {
        "InvalidPaper": {"__init__": "word at"},
        "NotUsable": {"__init__": "word at"},
        "Unfit": {"__init__": "barring"},
        "InvalidEvent": {"__init__": "event reason"},
        "NothingToUndo": {"__init__": "steps"},
        "InvalidSketch": {"__init__": "word at"},
        "InvalidText": {"__init__": "line field"},
    },
}


def parameters(function):
    """The names of a function's parameters, between spaces."""
    return " ".join(inspect.signature(function).parameters)


class Interface(unittest.TestCase):
    def test_functions(self):
        for name, functions in FUNCTIONS.items():
            module = importlib.import_module("hungwall." + name)
            for word, told in functions.items():
                with self.subTest(module=name, function=word):
                    function = getattr(module, word)
                    self.assertEqual(function.__module__, "hungwall." + name)
                    self.assertEqual(parameters(function), told)

    def test_classes(self):
        for name, classes in CLASSES.items():
            module = importlib.import_module("hungwall." + name)
            for word, methods in classes.items():
                self.assertEqual(getattr(module, word).__module__, "hungwall." + name)
                for method, told in methods.items():
                    with self.subTest(module=name, kind=word, method=method):
                        function = vars(getattr(module, word))[method]
                        self.assertEqual(parameters(function), ("self " + told).strip())


if __name__ == "__main__":
    unittest.main()
