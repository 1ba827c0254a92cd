"""The examples of the document, as it writes them."""

import unittest

from markrounds.maps import RowMap
from markrounds.rulers import Ruler


class ExamplesTest(unittest.TestCase):

    def test_rulers(self):
        r = Ruler(5, 2, 5, 0)
        self.assertEqual(
            (r.marks, r[1], 3 in r, (-r).marks, (r | Ruler(5, 3)).marks, (r - Ruler(5, 0)).marks, Ruler(5, 2) <= r),
            ((0, 2, 5), 2, False, (0, 3, 5), (0, 2, 3, 5), (2, 5), True))

    def test_maps(self):
        f, g = RowMap(0, 0, 3, 3), RowMap.shift(3, 1)
        self.assertEqual(
            ((f + g).images, (g + f).images, (f & g).images, f.classes, (-g).images, f <= g, f(2), 1 in f, f.is_still),
            ((1, 1, 3, 3), (0, 3, 3, 3), (0, 0, 3, 3), ((0, 1, 0), (2, 3, 3)), (0, 0, 1, 2), True, 3, False, True))
