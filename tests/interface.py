"""The interface of the document: the forms of the functions and classes of each file."""

FUNCTIONS = {
    "exact": """ratio(top, bottom) top_of(number) bottom_of(number) plus(x, y) minus(x, y) times(x, y) over(x, y) less(x, y)
        is_whole(number) floor_of(number) ceiling_of(number) nearest(number) common_bottom(numbers) least_of(numbers)
        greatest_of(numbers) number_text(number) read_number(text)""",
    "rows": """support(numbers) agrees(first, second) dot(first, second) negative(numbers) scaled(numbers, factor)
        added(first, second) before(first, second) primitive(numbers)""",
    "books": """pivots(book) cell_of(book, name) is_table(book, numbers) table_of(book, values) same_book(first, second)
        other_side(book)""",
    "models": """is_answer(model, numbers) is_whole_answer(model, numbers) price_of(model, numbers) same_model(first, second)
        with_box(model, box) with_range(model, cell, low, high) with_price(model, cell, price)
        with_mark(model, cell, marked)""",
    "reading": "read_model(text)",
    "writing": "write_model(model)",
    "listing": "write_table(book, table) read_table(book, text) columns(model, table)",
    "settled": "first_free(book, cells) rank(book, cells) settled(book, cells) settling_rule(book, cells, cell)",
    "bases": "bases(book) is_basis(book, cells) basis_rows(book, basis) swap(book, first, second, cell)",
    "turnings": """turnings(book) is_turning(book, row) turning_within(book, cells) turnings_through(book, cell)""",
    "sides": "price_turnings(book) is_price(book, numbers) common_cells(first, second)",
    "agreeing": "agreeing_parts(book, table) put_together(size, parts)",
    "painting": "paint(book, cell, colours)",
    "crossing": "crossed(book, first, second, away, keep)",
    "finest": "steps(book) finest_step(book)",
    "witness": """step_witness(book, k) witness_table(witness) witness_box(witness) witness_holds(book, witness, k)""",
    "plain": """is_plain(book) square_worth(book, sums, entries) least_bad_square(book) halves(book, group)
        uneven_group(book)""",
    "reshaped": """bind(book, cells) blank(book, cells) with_sum(book, name, row) with_entry(book, name, row)
        turned(book, cell) retold(book, cell, factor) doubled(book, cell, name) reordered(book, order)""",
    "webs": "flow_book(edges) height_book(edges) is_round_trip(edges, row)",
    "makes": "stretch_book(names, stretches) nest_book(names, first, second)",
    "boxes": "around(numbers) inside(box, numbers) meet(first, *others) widened(box, weights, width) greatest_worth(row, box)",
    "barring": "barring(model) has_answer(model)",
    "clashes": "least_clashes(model) clash_row(model, clash) only_bounds(model, bounds) repairs(model)",
    "ranges": "cell_range(model, cell) ranges(model)",
    "picks": "pick_answer(model, *, toward=None)",
    "kths": "is_kth(numbers, k) kth_answers(model, k) first_kth(model, k)",
    "widths": "least_width(model, weights) width_row(model, weights)",
    "stands": """first_stand(model) fitted_stand(model, basis, words) stand_table(model, stand) stand_turnings(model, stand)
        reduced_prices(model, stand) is_priced(model, stand)""",
    "certificates": """shows_none(model, row) shows_best(model, numbers, reduced) shows_unbounded(model, numbers, turning)""",
    "stepping": "step_from(model, stand, *, rule='first')",
    "below": "below_start(model) below_step(model, stand) from_below(model, stand)",
    "running": "solve(model, *, rule='first') solve_from(model, stand, *, rule='first')",
    "walking": "stands_along(model, *, rule='first') ring(model, *, rule='first')",
    "best": """cheaper_turning(model, answer) how_far(model, answer, turning) best_price(model) best_box(model)
        best_ranges(model)""",
    "sheets": "sheets(book, prices) sheet_worth(sheet, box) greatest_sheet(model)",
    "pieces": "price_pieces(model, cell) piece_price(pieces, number)",
    "corners": "corners(model) is_corner(model, numbers)",
    "rooms": "price_room(model, answer, cell) end_room(model, stand, cell)",
    "rests": "whole_frame(book) whole_times(book, table) whole_at(book, cells, numbers)",
    "wholes": "reaches(book) whole_turnings(book) is_whole_turning(book, row) whole_parts(book, table)",
    "lowering": """sure_whole(model) is_whole_model(model) distance(model, numbers) cheaper_whole(model, answer)
        whole_answer(model) lowest_whole(model)""",
    "branches": "branch(model) tree_holds(model, tree) tree_best(tree, prices)",
    "cuts": "cut_holds(model, cut) with_cut(model, name, cut) cut_of(model, stand, cell)",
    "cutting": "cut_run(model, names)",
    "drops": "first_drop(model)",
    "pushes": "first_push(model)",
    "leaving": "first_blank(model) first_shut(model)",
    "ahead": """step_holds(model, step) left_after(model, step) ahead(model, rules=<drop, push, blank, shut>)""",
    "back": """models_along(model, steps) table_back(model, steps, table) turning_back(model, steps, turning)
        row_back(model, steps, row) reduced_back(model, steps, reduced)""",
    "roundings": "roundings(book, table) count_roundings(book, table) show_table(book, table)",
    "moves": "walk_between(model, start, end) cheaper_move(model, answer)",
    "lots": "lot_mean(lot) is_lot(book, table, lot)",
    "drawing": "draw_up(book, table, *, toward=None) draw_paper(lot, number)",
    "chances": "paper_chance(book, table, whole) rest_after(book, table, whole)",
    "days": "parted(book, whole, days) is_parting(book, whole, parts)",
    "cards": "cards(book, table, many) least_cards(table) lot_of_cards(papers)",
    "deeds": "write_deed(deed) read_deed(line) write_journal(deeds) read_journal(text)",
    "edits": "edited(model, deed)",
    "report": "report(desk)",
    "runs": "run_desk(text)",
}
CLASSES = {"books": {"Book": "(names, rows)"}, "models": {"Model": "(book, box, *, prices=None, marks=())"},
           "outcomes": {"Outcome": "(kind, stand, table, row, price, steps)"}, "desk": {"Desk": "(model)"}}
METHODS = {"act": "(self, *deeds)", "undo": "(self)", "redo": "(self)", "deeds": "(self)", "tried": "(self, deeds)"}
PROPERTIES = ("model", "outcome")
GENERATORS = ("bases", "turnings", "stands_along", "models_along", "roundings")


def forms_of(file):
    """Returns the forms of the functions of the file, each with its arguments."""
    forms = [form.strip() + ")" for form in FUNCTIONS[file].replace("\n", " ").rstrip(")").split(")")]
    return [form.replace("<drop, push, blank, shut>", "('drop', 'push', 'blank', 'shut')") for form in forms]
