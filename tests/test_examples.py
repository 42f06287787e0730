"""The examples of the document as they are printed there, in one session from top to bottom."""

import unittest

EXAMPLES = """
>>> from seatbuttons.turns import back, back_after_turn, commutes, is_even, kind_of, moved, power, rings, root, roots, then, turn_of, turned_by
>>> swap, ring = (1, 0, 2), (1, 2, 0)
>>> [rings(swap), kind_of(swap), is_even(swap), is_even(ring), then(swap, ring), then(ring, swap), back(ring), power(ring, -1), power(ring, 10 ** 20), back_after_turn(swap)]
[((0, 1), (2,)), (2, 1), False, True, (2, 1, 0), (0, 2, 1), (2, 0, 1), (2, 0, 1), (1, 2, 0), 2]
>>> [turn_of(4, ((2, 0),)), turn_of(2, ()), moved(swap), turned_by(ring, swap), commutes(swap, ring), commutes(ring, back(ring)), roots((0, 1, 2), 2), root(swap, 2), root(ring, 2)]
[(2, 1, 0, 3), (0, 1), (0, 1), (0, 2, 1), False, True, 4, None, (2, 0, 1)]
>>> from seatbuttons.kinds import all_kinds, back_after, first_turn, how_many_turns, kind_power
>>> [all_kinds(4), len(all_kinds(24)), how_many_turns((2, 1)), how_many_turns((2, 2)), first_turn((3, 1)), kind_power((6, 4), 2), back_after((3, 2))]
[((4,), (3, 1), (2, 2), (2, 1, 1), (1, 1, 1, 1)), 1575, 3, 3, (1, 2, 0, 3), (3, 3, 2, 2), 6]
>>> from seatbuttons.joining import bars, can, complete, fewest_rings, how_many_joins, make, plane_joins, share
>>> [can((2, 1), (2, 1)), bars((2, 1), (3,)), bars((2, 1, 1, 1), (2, 1, 1, 1)), kind_of(then(make((4, 2), (3, 2, 1))[0], make((4, 2), (3, 2, 1))[1])), kind_of(then(swap, complete(swap, (2, 1)))), fewest_rings((2, 1, 1, 1), (2, 1, 1, 1)), fewest_rings((2, 2), (2, 2))]
[True, 'sign', 'rings', (6,), (3,), 3, 2]
>>> [how_many_joins((2, 1), (2, 1)), how_many_joins((3,), (3,)), how_many_joins((2, 1), (3,)), share((2, 1), (2, 1)), plane_joins((4, 1), (2, 1, 1, 1))]
[3, 1, 0, (2, 3), 5]
>>> from seatbuttons.boards import Board, named, placed, with_button, without
>>> board = Board(3, (("a", (1, 0, 2)), ("b", (0, 2, 1))), ((0, 1),))
>>> [board.text, board.names, board.turn("b"), str(without(board, "a")), repr(board), Board.read("3 ; a 1 0 2 ; b 0 2 1 ; tie 0 1") == board, with_button(board, "c", (1, 2, 0)).names]
['3 ; a 1 0 2 ; b 0 2 1 ; tie 0 1', ('a', 'b'), (0, 2, 1), '3 ; b 0 2 1 ; tie 0 1', 'Board of 3 places, 2 buttons, 1 ties', True, ('a', 'b', 'c')]
>>> [placed(board, (2, 1, 0)).text, named(board, ("y", "x")).text]
['3 ; a 0 2 1 ; b 1 0 2 ; tie 1 2', '3 ; x 0 2 1 ; y 1 0 2 ; tie 0 1']
>>> Board(2, (("a", (1, 0)), ("a", (0, 1))), ())
raises InvalidButtons(index=1)
>>> from seatbuttons.presses import back_after_row, first_unlike, length, on, pressed, row_back, row_of, same, shortened, text_of, times, way
>>> row = (("a", 1), ("b", -1), ("a", 5))
>>> [row_of(board, "a b-1 a5") == row, text_of(board, row), pressed(board, row), length(board, row), row_back(board, row), shortened(board, row), times(board, (("a", 1), ("b", 1)), 10 ** 30), back_after_row(board, (("a", 1), ("b", 1)))]
[True, 'a b-1 a5', (2, 1, 0), 7, (('a', -5), ('b', 1), ('a', -1)), (('a', 1), ('b', 1), ('a', 1)), (2, 0, 1), 3]
>>> [same(board, (("a", 2),), ()), first_unlike(board, (("a", 1),), (("b", 1),)), on(board, row, "xy-"), way(board, row, 0), shortened(board, (("a", 1), ("b", 2), ("a", 1)))]
[True, 0, '-yx', (0, 1, 2, 2), ()]
>>> from seatbuttons.chains import agreeing, base, first_outside, holding, inside, is_closed, is_normal, chain, keeping, made, making, member_at, nearest, number_of, order, row_made, same_group, spans, within
>>> square = Board(4, (("f", (1, 0, 3, 2)), ("r", (1, 2, 3, 0))), ())
>>> [order(square), base(square), spans(square), inside(square, (0, 3, 2, 1)), inside(square, (1, 0, 2, 3)), agreeing(square, (1, 0, 2, 3)), nearest(square, (1, 0, 2, 3)), agreeing(square, (0, 2, 1, 3))]
[8, (0, 1), ((0, 1, 2, 3), (1, 3)), True, False, 2, (1, 0, 3, 2), 1]
>>> [made(square, ("r", "f", (0, 1))), made(square, ("r", 0)), made(square, (None,)), row_made(square, ("r", "f", (0, 1), 2)), made(square, making(square, (2, 3, 0, 1))), is_closed(square, chain(square))]
[(0, 3, 2, 1), (3, 0, 1, 2), (0, 1, 2, 3), (('f', -1), ('r', -1)), (2, 3, 0, 1), True]
>>> [member_at(square, 5), number_of(square, (1, 2, 3, 0)), keeping(square, (0,)), holding(square, (0, 2)), holding(square, (1, 0)), order(Board(24, (("a", turn_of(24, ((0, 1),))), ("b", turn_of(24, (tuple(range(24)),)))), ())) // 10 ** 23]
[(2, 3, 0, 1), 3, 2, 4, 2, 6]
>>> ring, swaps = Board(3, (("a", (1, 2, 0)),), ()), Board(3, (("a", (1, 0, 2)), ("b", (0, 2, 1))), ())
>>> [within(ring, swaps), within(swaps, ring), first_outside(swaps, ring), is_normal(ring, swaps), is_normal(Board(3, (("a", (1, 0, 2)),), ()), swaps), same_group(ring, Board(3, (("x", (2, 0, 1)),), ()))]
[True, False, 'a', True, False, True]
>>> making(square, (1, 0, 2, 3))
raises NotInside(level=2)
>>> from seatbuttons.places import count_reaches, distance, distance_leading, fold, reaches, row_leading, row_to
>>> six = Board(6, (("a", (1, 2, 3, 4, 5, 0)), ("b", (0, 5, 4, 3, 2, 1))), ())
>>> two = Board(5, (("a", (1, 0, 2, 3, 4)), ("b", (0, 1, 3, 4, 2))), ())
>>> [reaches(six), reaches(two), distance(six, 0, 2), distance(six, 1, 5), distance(two, 0, 2), row_to(six, 0, 5), distance_leading(six, (0, 1), (3, 2)), row_leading(six, (0, 1), (0, 2))]
[((0, 1, 2, 3, 4, 5),), ((0, 1), (2, 3, 4)), 2, 1, None, (('a', -1),), 4, None]
>>> [count_reaches(six, 1), count_reaches(six, 2), count_reaches(two, 1), count_reaches(two, 3), fold(six), fold(two), fold(swaps), fold(Board(1, (), ()))]
[1, 3, 2, 11, 1, 0, 3, 1]
>>> from seatbuttons.blocks import blocks_with, board_of, has_blocks, is_block, least_block, led_blocks, top_blocks
>>> [blocks_with(six, 0), least_block(six, (0, 2)), least_block(six, (1, 4)), least_block(six, (0, 1)), led_blocks(six, (0, 3)), is_block(six, (0, 3)), is_block(six, (0, 1)), has_blocks(two, 2)]
[((0,), (0, 3), (0, 2, 4), (0, 1, 2, 3, 4, 5)), (0, 2, 4), (1, 4), (0, 1, 2, 3, 4, 5), ((0, 3), (1, 4), (2, 5)), True, False, False]
>>> [board_of(six, (0, 3)).buttons, top_blocks(six, 0), top_blocks(two, 0)]
[(('a', (1, 2, 0)), ('b', (0, 2, 1))), ((0, 3), (0, 2, 4)), ((0,),)]
>>> least_block(two, (0, 2))
raises NotLed(one=0, other=2)
>>> from seatbuttons.likeness import alike, count_together, goes_together, likeness, renaming, together_through
>>> pairs = Board(4, (("a", (1, 0, 3, 2)),), ())
>>> [likeness(six, 0, 3), likeness(six, 0, 1), likeness(pairs, 0, 2), count_together(six), count_together(two), count_together(pairs), together_through(six, 0, 3), goes_together(pairs, (2, 3, 0, 1))]
[((0, 3), (1, 4), (2, 5), (3, 0), (4, 1), (5, 2)), None, ((0, 2), (1, 3)), 2, 6, 8, (3, 4, 5, 0, 1, 2), True]
>>> [alike(ring, Board(3, (("x", (2, 0, 1)),), ())), renaming(ring, Board(3, (("x", (2, 0, 1)),), ()))[1], alike(ring, swaps), alike(board, swaps)]
[True, ('x',), False, False]
>>> from seatbuttons.classes import centre, class_of, count_classes, is_even_board, kinds_in
>>> [kinds_in(six), kinds_in(swaps), count_classes(six), count_classes(swaps), len(centre(six)), centre(swaps), class_of(six, (1, 2, 3, 4, 5, 0)), is_even_board(ring), is_even_board(six)]
[(((6,), 2), ((3, 3), 2), ((2, 2, 2), 4), ((2, 2, 1, 1), 3), ((1, 1, 1, 1, 1, 1), 1)), (((3,), 2), ((2, 1), 3), ((1, 1, 1), 1)), 6, 3, 2, ((0, 1, 2),), ((1, 2, 3, 4, 5, 0), (5, 0, 1, 2, 3, 4)), True, False]
>>> from seatbuttons.standings import all_reached, count_reached, farthest_standings, goes, keepers, least, presses_between, row_between, turned
>>> from seatbuttons.sorts import sorts, sorts_with
>>> [turned("aabb", (1, 2, 3, 0)), on(square, (("r", 1), ("f", 1)), "abcd"), count_reached(square, "aabb"), all_reached(square, "abab"), least(square, "bbaa"), keepers(square, "aabb"), keepers(square, "abab")]
['baab', 'adcb', 4, ('abab', 'baba'), 'aabb', 2, 4]
>>> [goes(square, "aabb", "abab"), row_between(square, "aabb", "abba"), presses_between(square, "aabb", "bbaa"), row_between(square, "aabb", "abab"), farthest_standings(square, "aabb")]
[False, (('r', -1),), 2, None, ('bbaa',)]
>>> [sorts(square, 2), sorts(square, 1), sorts(square, 0), sorts_with(square, (2, 2)), sorts_with(square, (1, 1, 2)), sorts_with(square, (4, 0))]
[6, 1, 0, 2, 2, 1]
>>> from seatbuttons.yards import comes_to, count_come, empties, fewest_steps, homing_kind, homing_order, is_homing, run_steps, steps_to
>>> yard = Board(4, (), ((0, 1), (0, 3), (1, 2), (2, 3)))
>>> grid = Board(6, (), ((0, 1), (0, 3), (1, 2), (1, 4), (2, 5), (3, 4), (4, 5)))
>>> seven = Board(7, (), ((0, 1), (0, 5), (0, 6), (1, 2), (2, 3), (3, 4), (3, 6), (4, 5)))
>>> mixed = Board(4, (("a", (0, 2, 1, 3)),), ((0, 1), (0, 3), (1, 2), (2, 3)))
>>> [homing_order(yard, 0), homing_order(grid, 0), homing_order(seven, 0), homing_order(mixed, 0), homing_kind(yard, 0), homing_kind(grid, 0), homing_kind(seven, 0), homing_kind(mixed, 0)]
[3, 60, 120, 6, 'even', 'even', 'other', 'all']
>>> [empties(yard, 0), steps_to(yard, 0, 3), run_steps(yard, "-abc", ((">", 1), (">", 2), (">", 3), (">", 0))), is_homing(yard, 0, (0, 2, 3, 1)), is_homing(yard, 0, (0, 2, 1, 3)), is_homing(mixed, 0, (0, 2, 1, 3))]
[(0, 1, 2, 3), (('>', 3),), '-bca', True, False, True]
>>> [count_come(yard, "-abc"), count_come(yard, "-aab"), count_come(grid, "-abcde"), comes_to(grid, "-abcde", "-bacde"), comes_to(grid, "-aabcd", "-abacd"), fewest_steps(yard, "-abc", "a-bc"), fewest_steps(yard, "-abc", "-bca")]
[12, 12, 360, False, True, 1, 4]
>>> run_steps(yard, "-abc", ((">", 2),))
raises InvalidSteps(index=0)
>>> from seatbuttons.sorting import common_beginning, crossings, first_way, how_many_ways, index_of_way, is_beginning, is_below, just_below, nth_way, turn_of_way
>>> top = (3, 2, 1, 0)
>>> [crossings((2, 0, 1)), first_way((2, 0, 1)), turn_of_way(3, (0, 1)), first_way(top), how_many_ways(top), nth_way(top, 15), index_of_way(4, (2, 1, 2, 0, 1, 2)), how_many_ways((0, 1))]
[((0, 1), (0, 2)), (0, 1), (2, 0, 1), (0, 1, 0, 2, 1, 0), 16, (2, 1, 2, 0, 1, 2), 15, 1]
>>> [is_below((1, 0, 2), (1, 2, 0)), is_below((1, 2, 0), (2, 0, 1)), is_beginning((1, 0, 2), (2, 0, 1)), is_beginning((0, 2, 1), (2, 0, 1)), common_beginning((2, 0, 1), (2, 1, 0)), just_below((2, 1, 0))]
[True, False, True, False, (2, 0, 1), ((1, 2, 0), (2, 0, 1))]
>>> from seatbuttons.swaps import fewest_swaps, hub_swaps, swap_rows, tied_swaps
>>> line = Board(4, (), ((0, 1), (1, 2), (2, 3)))
>>> [fewest_swaps((1, 2, 0)), swap_rows((1, 2, 0)), swap_rows((1, 0, 3, 2)), hub_swaps((1, 2, 0), 0), hub_swaps((0, 2, 1), 0), len(tied_swaps(line, top)), tied_swaps(line, (0, 1, 3, 2)), tied_swaps(board, (0, 2, 1)), tied_swaps(board, (0, 1, 2))]
[2, 3, 2, 2, 3, 6, ((2, 3),), None, ()]
>>> from seatbuttons.fewest import counted_rows, farthest, fewest, first_row, layer, near, spread, told_cost
>>> [spread(square), farthest(square), fewest(square, (2, 3, 0, 1)), first_row(square, (2, 3, 0, 1)), first_row(square, (3, 2, 1, 0)), layer(square, 1), layer(square, 9)]
[(1, 3, 3, 1), ((3, 2, 1, 0),), 2, (('r', 2),), (('f', 1), ('r', 2)), ((1, 0, 3, 2), (1, 2, 3, 0), (3, 0, 1, 2)), ()]
>>> [near(square, (3, 2, 1, 0), 2), near(square, (3, 2, 1, 0), 3), told_cost(square, (3, 2, 1, 0), ("r",)), told_cost(square, (3, 2, 1, 0), ("f",)), told_cost(square, (2, 1, 0, 3), ()), counted_rows(square, (0, 1, 2, 3), 2), counted_rows(square, (1, 0, 3, 2), 1)]
[None, 3, 2, 1, 0, 6, 2]
>>> from seatbuttons.riddles import Riddle, best_look, board_with, count_fits, fit_at, fits, goals, heaps, left_by, looks_needed, number_of_fit, sure_inside, sure_places, telling_looks, wrong_looks
>>> wheel = Board(4, (("r", (1, 2, 3, 0)),), ())
>>> dim = Riddle(wheel, "h", (("aabb", (("h", 1),), "abab"),))
>>> [count_fits(dim), heaps(dim), goals(dim, 0), goals(dim, 3), sure_places(dim), fit_at(dim, 0), fit_at(dim, 3), left_by(dim, "abab"), left_by(dim, "aaab"), looks_needed(dim, 2), best_look(dim, ("aaab", "abab"))]
[4, ((0, 1), (2, 3)), (0, 2), (1, 3), (), (0, 2, 1, 3), (2, 0, 3, 1), 1, 2, 1, 'abab']
>>> clear = dim.with_look(("abab", (("r", 1), ("h", 1)), "aabb"))
>>> [count_fits(clear), fit_at(clear, 0), sure_places(clear), fits(dim, (2, 0, 3, 1)), looks_needed(Riddle(wheel, "h", ()), 2), looks_needed(Riddle(wheel, "h", ()), 4), number_of_fit(dim, (2, 0, 3, 1))]
[1, (2, 0, 3, 1), ((0, 2), (1, 0), (2, 3), (3, 1)), True, 2, 1, 3]
>>> bad = clear.with_look(("abcd", (("h", -1),), "dcba"))
>>> [count_fits(bad), wrong_looks(bad), wrong_looks(dim), sure_inside(dim, (2, 3, 0, 1)), sure_inside(clear, (1, 0, 2, 3)), sure_inside(Riddle(wheel, "h", ()), (1, 0, 2, 3)), board_with(clear, (2, 0, 3, 1)).names]
[0, ((2,), (0, 1)), ((),), True, True, False, ('h', 'r')]
>>> from seatbuttons.mazes import Maze, count_guesses, guesses, sure_turns
>>> maze = Maze(Board(3, (), ()), ("h",), (("abc", (("h", 2),), "cab"),))
>>> [guesses(maze), sure_turns(maze), count_guesses(Maze(Board(3, (), ()), ("g", "h"), (("abc", (("g", 1), ("h", 1)), "abc"),)))]
[(((2, 0, 1),),), ((2, 0, 1),), 6]
>>> from seatbuttons.benches import Bench
>>> bench = Bench(mixed, "-abc")
>>> [bench.press("a", 3), bench.standing, bench.slide(1, 0), bench.standing, bench.do((("a", 1),)), bench.standing, bench.undo(), bench.standing, bench.deeds]
[None, '-bac', None, 'b-ac', None, 'ba-c', None, 'b-ac', (('press', 'a', 3), ('slide', 1, 0))]
>>> [bench.play((("slide", 2, 1), ("press", "a", 1))), bench.standing, bench.changes]
[None, 'b-ac', 4]
>>> bench.slide(3, 1)
raises NoSlide()
>>> from seatbuttons.console import Console
>>> console = Console()
>>> [console.run("board q 4 ; f 1 0 3 2 ; r 1 2 3 0"), console.run("standing s aabb"), console.run("order q"), console.run("press q s r"), console.run("count q s"), console.run("blocks q 0"), console.run("claim order q 8"), console.run("turn q r f")]
['ok', 'ok', '8', 'baab', '4', '0 , 0 2 , 0 1 2 3', 'ok', '0 3 2 1']
>>> console.run("board q 4 ; r 1 2 3 0")
raises Broken(index=0, shown=4)
>>> from seatbuttons.certificates import certify_block, certify_goes, certify_inside, certify_led, certify_order, certify_ring, certify_sure
>>> from seatbuttons.checker import accepts
>>> [certify_inside(square, (1, 0, 2, 3))[0][0], certify_order(square)[0][2], certify_led(two, 0, 2), certify_block(six, (0, 3))[0][0], certify_block(six, (0, 1))[0][0], certify_goes(square, "aabb", "abab")[0], certify_ring((2, 1), (3,)), certify_sure(clear, 0)[0][4:]]
['outside', 8, (('not led', '5 ; a 1 0 2 3 4 ; b 0 1 3 4 2', 0, 2), (0, 1)), 'block', 'no block', ('never', '4 ; f 1 0 3 2 ; r 1 2 3 0', 'aabb', 'abab'), (('no ring', (2, 1), (3,)), 'sign'), (0, 2)]
>>> [accepts(("inside", square.text, (0, 3, 2, 1)), ("r", "f", (0, 1))), accepts(("goes", square.text, "aabb", "abba"), (("r", -1),)), accepts(("goes", square.text, "aabb", "abab"), (("r", 1),)), accepts(("no block", six.text, (0, 1)), (("a", 1),))]
[True, True, False, True]
"""


def told_error(error):
    """An error as the document prints it."""
    shown = ", ".join(f"{name}={value!r}" for name, value in vars(error).items())
    return f"raises {type(error).__name__}({shown})"


def answered(source, names):
    """What a line of the session shows, None if nothing."""
    try:
        try:
            compiled = compile(source, "example", "eval")
        except SyntaxError:
            exec(source, names)
            return None
        shown = eval(compiled, names)
        return None if shown is None else repr(shown)
    except Exception as error:
        if type(error).__module__ != "seatbuttons.errors":
            raise
        return told_error(error)


class Examples(unittest.TestCase):
    def test_examples(self):
        names = {}
        lines = EXAMPLES.strip().split("\n")
        for line, following in zip(lines, lines[1:] + [">>> "]):
            if line.startswith(">>> "):
                told = None if following.startswith(">>> ") else following
                self.assertEqual(answered(line[4:], names), told, line)


if __name__ == "__main__":
    unittest.main()
