"""The names, arguments and places of what the document lists in its interface."""

import importlib
import inspect
import unittest

FUNCTIONS = {
    "turns": """rings(turn) kind_of(turn) is_even(turn) then(one,other) back(turn) power(turn,number)
        back_after_turn(turn) turn_of(size,rings) moved(turn) turned_by(turn,other) commutes(one,other)
        roots(turn,number) root(turn,number)""",
    "kinds": "all_kinds(size) how_many_turns(kind) first_turn(kind) kind_power(kind,number) back_after(kind)",
    "joining": """can(one,other) bars(one,other) make(one,other) complete(turn,kind) fewest_rings(one,other)
        how_many_joins(one,other) share(one,other) plane_joins(one,other)""",
    "boards": "with_button(board,name,turn) without(board,name) placed(board,turn) named(board,names)",
    "presses": """row_of(board,text) text_of(board,row) pressed(board,row) length(board,row) row_back(board,row)
        times(board,row,number) back_after_row(board,row) same(board,one,other) first_unlike(board,one,other)
        on(board,row,standing) way(board,row,place) shortened(board,row)""",
    "chains": """order(board) base(board) spans(board) inside(board,turn) agreeing(board,turn) nearest(board,turn)
        making(board,turn) made(board,steps) row_made(board,steps) member_at(board,number) number_of(board,turn)
        keeping(board,places) holding(board,places) within(one,other) same_group(one,other)
        first_outside(one,other) is_normal(one,other) chain(board) is_chain(board,value) is_closed(board,value)""",
    "places": """reaches(board) distance(board,place,goal) row_to(board,place,goal) distance_leading(board,places,goals)
        row_leading(board,places,goals) count_reaches(board,number) fold(board)""",
    "blocks": """is_block(board,value) least_block(board,places) blocks_with(board,place) top_blocks(board,place)
        has_blocks(board,place) led_blocks(board,block) board_of(board,block)""",
    "likeness": """likeness(board,place,goal) goes_together(board,turn) count_together(board)
        together_through(board,place,goal) renaming(one,other) alike(one,other)""",
    "classes": "kinds_in(board) class_of(board,turn) count_classes(board) centre(board) is_even_board(board)",
    "standings": """turned(standing,turn) count_reached(board,standing) all_reached(board,standing) least(board,standing)
        keepers(board,standing) goes(board,one,other) row_between(board,one,other) presses_between(board,one,other)
        farthest_standings(board,one)""",
    "sorts": "sorts(board,signs) sorts_with(board,counts)",
    "yards": """empties(board,home) steps_to(board,home,goal) homing_turns(board,home) homing_order(board,home)
        is_homing(board,home,turn) homing_kind(board,home) run_steps(board,standing,steps)
        comes_to(board,one,other) count_come(board,standing) steps_between(board,one,other)
        fewest_steps(board,one,other)""",
    "sorting": """crossings(turn) first_way(turn) turn_of_way(size,way) how_many_ways(turn) nth_way(turn,index)
        index_of_way(size,way) is_below(one,other) is_beginning(one,other) common_beginning(one,other)
        just_below(turn)""",
    "swaps": "fewest_swaps(turn) swap_rows(turn) hub_swaps(turn,hub) tied_swaps(board,turn)",
    "fewest": """fewest(board,turn) first_row(board,turn) spread(board) farthest(board) layer(board,number)
        told_cost(board,turn,names) counted_rows(board,turn,number) near(board,turn,most)""",
    "riddles": """count_fits(riddle) fits(riddle,turn) heaps(riddle) goals(riddle,place) sure_places(riddle)
        fit_at(riddle,number) number_of_fit(riddle,turn) left_by(riddle,standing) best_look(riddle,standings)
        looks_needed(riddle,signs) telling_looks(riddle,signs) wrong_looks(riddle) board_with(riddle,turn)
        sure_inside(riddle,turn)""",
    "mazes": "guesses(maze) count_guesses(maze) sure_turns(maze)",
    "checker": "accepts(claim,paper)",
    "certificates": """certify_inside(board,turn) certify_order(board) certify_led(board,place,goal)
        certify_block(board,places) certify_within(one,other) certify_alike(one,other) certify_together(board,turn)
        certify_goes(board,one,other) certify_reached(board,standing) certify_steps(board,one,other)
        certify_fewest(board,turn) certify_spread(board) certify_ring(one,other) certify_sure(riddle,place)""",
}

CLASSES = {
    "boards": {"Board": "__init__(self,size,buttons,ties) read(text) turn(self,name)"},
    "riddles": {"Riddle": "__init__(self,board,name,looks) with_look(self,look) without_look(self,index)"},
    "mazes": {"Maze": "__init__(self,board,names,looks)"},
    "benches": {"Bench": """__init__(self,board,standing) press(self,name,number) do(self,row) slide(self,place,goal)
        play(self,deeds) undo(self) trial(self) tried(self,action)"""},
    "shelves": {"Shelf": """__init__(self) put(self,name,thing) thing(self,name) drop(self,name) claim(self,claim)
        lift(self,index) undo(self) trial(self) tried(self,action) __contains__(self,x)"""},
    "console": {"Console": "__init__(self) run(self,command)"},
}
PROPERTIES = {
    "boards": {"Board": "size buttons ties names text"},
    "riddles": {"Riddle": "board name looks size"},
    "mazes": {"Maze": "board names looks"},
    "benches": {"Bench": "board standing deeds changes"},
    "shelves": {"Shelf": "names claims changes"},
    "console": {"Console": "shelf"},
}


def module_of(name):
    return importlib.import_module(f"seatbuttons.{name}")


class Interface(unittest.TestCase):
    def check(self, told, function, name):
        shown = "".join(str(inspect.signature(function)).split())
        self.assertEqual(function.__name__ + shown, told)
        self.assertEqual(function.__module__, f"seatbuttons.{name}")

    def test_functions(self):
        for name, told in FUNCTIONS.items():
            for function in told.split():
                self.check(function, getattr(module_of(name), function.split("(")[0]), name)

    def test_classes(self):
        for name, classes in CLASSES.items():
            for title, told in classes.items():
                held = vars(getattr(module_of(name), title))
                self.assertEqual(held["__module__"], f"seatbuttons.{name}")
                for method in told.split():
                    found = held[method.split("(")[0]]
                    self.check(method, getattr(found, "__func__", found), name)

    def test_properties(self):
        for name, classes in PROPERTIES.items():
            for title, told in classes.items():
                held = vars(getattr(module_of(name), title))
                for title_of in told.split():
                    self.assertIsInstance(held[title_of], property)
                    self.assertIsNone(held[title_of].fset)


if __name__ == "__main__":
    unittest.main()
