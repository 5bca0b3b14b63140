"""The interface: names and arguments of the functions, each defined in its own file."""

import importlib
import inspect
import unittest

INTERFACE = {
    "nests": [
        "inside(nest, door)", "around(nest, door)", "at_once(nest, door)", "sizes(nest)", "depths(nest)",
        "mixings(nest)", "free_numbers(nest)", "last_numbers(nest)", "first_numbers(nest)",
        "kept_numbers(nest, numbers)",
    ],
    "nesttext": ["write_nest(nest, numbers)", "read_nest(text)"],
    "orders": [
        "ranks(nest, order)", "order_inside(nest, order, door)", "with_ranks(nest, some)",
        "put_in(nest, order, door, rank)", "allows(nest, numbers, order)", "order_count(nest, numbers)",
    ],
    "listing": [
        "order_number(nest, numbers, order)", "order_at(nest, numbers, index)", "next_order(nest, numbers, order)",
        "all_orders(nest, numbers)", "widened(nest, numbers, door, number)", "closed_in(nest, numbers, some)",
    ],
    "states": [
        "open_inside(nest, state)", "ready(nest, numbers, state)", "safe_next(nest, numbers, state)",
        "ways_on(nest, numbers, state)", "lost_door(nest, numbers, state)",
        "shows_lost(nest, numbers, state, value)", "next_chances(nest, numbers, state)",
        "ways_between(nest, numbers, one, other)", "met_count(nest, numbers)", "last_states(nest, numbers)",
        "is_safe(nest, numbers)", "first_lost(nest, numbers)",
    ],
    "times": [
        "time_chances(nest, numbers, state, door)", "mean_times(nest, numbers, state)",
        "ahead_chance(nest, numbers, state, one, other)",
    ],
    "sums": [
        "sum_counts(nest, numbers)", "rest_counts(nest, numbers, many)", "mean_sum(nest, numbers)",
        "with_sum(nest, numbers, total)",
    ],
    "telling": [
        "least_numbers(nest, told)", "told_count(nest, told)", "third_order(nest, told)",
        "shows_third(nest, told, value)", "parting(nest, yes, no)", "parting_doors(nest, yes, no)",
    ],
    "wishing": [
        "numbers_with(nest, count)", "shows_numbers_with(nest, count, value)", "covering(nest, numbers)",
        "shows_covering(nest, numbers, value)",
    ],
    "hands": ["last_hand(nest, numbers, state)", "winning_doors(nest, numbers, state)", "worth(nest, numbers, state)"],
    "keepers": [
        "kept_open(nest, numbers, state, is_first)", "keeper_plan(nest, numbers, is_first)",
        "shows_plan(nest, numbers, is_first, value)", "end_value(nest, numbers, state, is_first)",
    ],
    "leaving": [
        "stays(row)", "leavers(row)", "leaving_nest(row)", "leave_count(row)", "is_leaving(row, order)",
        "payments(row)", "rounds(row)", "ring_payments(ring)", "ring_count(ring)",
    ],
    "sides": [
        "side_count(lefts, rights)", "turned_pairs(order)", "side_order(lefts, rights)",
        "side_ready(lefts, rights, state)", "side_numbers(order)", "wide_sides(lefts, rights, orders)",
        "rows_as_nests(lefts)", "side_ends(lefts, rights)",
    ],
    "costs": [
        "least_cost(nest, numbers, prices)", "mean_cost(nest, numbers, prices)", "cost_paper(nest, numbers, prices)",
        "shows_cost_paper(nest, numbers, prices, value)",
    ],
    "openers": [
        "all_chance(nest, numbers)", "mean_open(nest, numbers)", "order_chance(nest, numbers, order)",
        "end_chances(nest, numbers)",
    ],
    "shutting": [
        "steps_between(nest, numbers, one, other)", "way_between(nest, numbers, one, other)",
        "joined_states(nest, numbers, state)", "farthest_states(nest, numbers, state)",
        "parts_of_states(nest, numbers)",
    ],
    "desk": ["Desk(nest, numbers)"],
    "words": ["words_of(nest, order)", "order_of(nest, some, words)"],
    "swapping": [
        "beside(nest, numbers, order)", "swaps(nest, numbers, one, other)", "joined_parts(nest, numbers)",
        "turned_between(nest, one, other)", "to_allowed(nest, numbers, order)",
    ],
    "renaming": [
        "renamings(nest, numbers)", "orders_alike(nest, numbers)", "least_form(nest, numbers)", "are_alike(one, other)",
        "alike_doors(nest, numbers)",
    ],
    "parallel": [
        "least_rounds(nest, numbers, state)", "rounds_plan(nest, numbers, state)",
        "shows_rounds(nest, numbers, state, value)", "greedy_state(nest, numbers, state)",
    ],
    "buying": ["bought(nest, table, least)", "most_orders(nest, table, most)"],
    "mixtures": [
        "mixture(nest, numbers, goals)", "goal_paper(nest, numbers, goals)",
        "shows_mixture(nest, numbers, goals, value)", "shows_goal_paper(nest, numbers, goals, value)",
    ],
    "missing": [
        "missing(nest, numbers, order)", "orders_by_missing(nest, numbers)", "mended(nest, numbers, order)",
        "made_safe(nest, numbers)", "least_missing(nest, numbers)",
    ],
    "weighted": ["weighted_ends(nest, numbers, weights)", "weighted_first(nest, numbers, weights, one, other)"],
    "gaps": ["gap_chances(nest, numbers, one, other)", "mean_gap(nest, numbers)"],
    "allnests": ["nest_count(n)", "mixings_in_all(n)", "nests_by_rooms(n)", "nests_by_depth(n)"],
    "allrows": ["rows_by_stays(n)", "rows_by_rounds(n)", "orders_in_all(n)", "mean_paid(n)"],
}


class Interface(unittest.TestCase):
    def test_functions(self):
        for file, calls in INTERFACE.items():
            module = importlib.import_module(f"countdoors.{file}")
            for call in calls:
                with self.subTest(file=file, call=call):
                    name = call.partition("(")[0]
                    function = getattr(module, name)
                    self.assertEqual(function.__module__, f"countdoors.{file}")
                    self.assertEqual(name + str(inspect.signature(function)), call)


if __name__ == "__main__":
    unittest.main()
