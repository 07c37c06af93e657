"""Promise 5."""

import unittest

from slowshelves.errors import InvalidShelf, InvalidSize
from slowshelves.shelves import cell_parts, linked_cells, list_shelf, need_shelf, ring_shelf, shelf_links
from tests.support import Case, parts_of


class TestShelves(Case):
    def test_need_shelf_tells_tuples(self):
        self.gives((3, (("list", (2, 0)), ("ring", (0, 1, 2)))), need_shelf, (3, (("list", (2, 0)), ("ring", (0, 1, 2)))))
        self.gives((1, ()), need_shelf, (1, ()))
        self.gives((1, (("list", (0,)),) * 3), need_shelf, (1, (("list", (0,)),) * 3))

    def test_what_is_told_is_kept_apart(self):
        row = [0, 1]
        told = need_shelf((2, [["list", row]]))
        row.append(7)
        self.assertEqual((2, (("list", (0, 1)),)), told)

    def test_chains_to_200(self):
        chain = ("list", (0,))
        self.assertEqual(200, len(need_shelf((1, [chain] * 200))[1]))
        self.fails(InvalidShelf(200), need_shelf, (1, [chain] * 201))
        self.fails(InvalidShelf(200), need_shelf, (1, (chain,) * 200 + ("bad", "bad")))
        self.fails(InvalidShelf(199), need_shelf, (1, (chain,) * 199 + (("list", (1,)),) * 5))
        self.fails(InvalidShelf(-1), need_shelf, (201, [chain] * 201))

    def test_links(self):
        self.gives(((0, 1), (0, 2)), shelf_links, (4, (("list", (2, 0, 1)),)))
        self.gives(((0, 1), (0, 3), (1, 2), (2, 3)), shelf_links, (4, (("ring", (2, 1, 0, 3)),)))
        self.gives(((0, 1),), shelf_links, (2, (("list", (0, 1)), ("list", (1, 0)), ("list", (0, 1)))))
        self.gives((), shelf_links, (2, (("list", (1,)),)))
        self.gives((), shelf_links, (200, ()))

    def test_a_list_has_no_link_of_its_ends(self):
        self.gives(((0, 1), (1, 2)), shelf_links, (3, (("list", (0, 1, 2)),)))
        self.gives(((0, 1), (0, 2), (1, 2)), shelf_links, (3, (("ring", (0, 1, 2)),)))

    def test_linked_cells(self):
        shelf = (5, (("list", (3, 1)), ("ring", (0, 3, 2))))
        self.gives(((2, 3), (3,), (0, 3), (0, 1, 2), ()), linked_cells, shelf)
        self.gives(((),), linked_cells, (1, ()))

    def test_parts(self):
        self.gives(((0, 4), (1,), (2, 3, 5)), cell_parts, (6, (("list", (4, 0)), ("list", (5, 2, 3)))))
        self.gives(((0,),), cell_parts, (1, ()))
        self.gives((tuple(range(200)),), cell_parts, list_shelf(200))
        self.gives(tuple((cell,) for cell in range(200)), cell_parts, (200, ()))

    def test_links_and_parts_agree_with_what_chains_say(self):
        for chains in (((0, 1), (2, 3, 4)), ((5, 0, 3), (3, 1)), ((0, 1, 2, 3, 4, 5),), ((4, 2), (2, 0), (0, 4), (1, 5))):
            for kind in ("list", "ring"):
                rows = [(kind if len(row) > 2 else "list", row) for row in chains]
                ends = [row for told, row in rows if told == "ring"]
                pairs = [pair for row in chains for pair in zip(row, row[1:])] + [(row[-1], row[0]) for row in ends]
                links = tuple(sorted({tuple(sorted(pair)) for pair in pairs}))
                self.gives(links, shelf_links, (6, tuple(rows)))
                self.gives(tuple(parts_of((6, links))), cell_parts, (6, tuple(rows)))

    def test_one_chain_of_all(self):
        self.gives((1, (("list", (0,)),)), list_shelf, 1)
        self.gives((3, (("list", (0, 1, 2)),)), list_shelf, 3)
        self.gives((200, (("list", tuple(range(200))),)), list_shelf, 200)
        self.gives((3, (("ring", (0, 1, 2)),)), ring_shelf, 3)
        self.gives((200, (("ring", tuple(range(200))),)), ring_shelf, 200)
        for cells in (0, 1, 2, 201):
            self.fails(InvalidSize("cells"), ring_shelf, cells)
        self.fails(InvalidSize("cells"), list_shelf, 0)
        self.assertEqual(199, len(shelf_links(list_shelf(200))))
        self.assertEqual(200, len(shelf_links(ring_shelf(200))))

    def test_large_shelves(self):
        row = tuple(range(200))
        shelf = (200, [("ring", row[at:] + row[:at]) for at in range(200)])
        self.assertEqual(200, len(shelf_links(shelf)))
        shelf = (200, [("ring", tuple((at * 3) % 200 for at in range(200)))] * 100 + [("list", row)] * 100)
        self.assertEqual(399, len(shelf_links(shelf)))


if __name__ == "__main__":
    unittest.main()
