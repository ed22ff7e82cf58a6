"""The call frame, with rows whose checks are worked out by hand."""

import unittest

from lines import GREATEST, answered, begin, frame, log, net, told, totals


def answer(*octets):
    return told(frame(*octets))[0]


class Data(unittest.TestCase):
    def test_the_least(self):
        # 68; with it in the last byte, 68 + 68 * 9 = 680
        self.assertEqual(answer(68, 0, 0, 0, 0, 0, 0, 0, 68), [680, 1, 0, 0, 0])

    def test_the_greatest(self):
        # 68 + 255 * (2 + .. + 6) + 16 * 7 + 255 * (8 + .. + 23) = 68520; less 65521 it's 2999 = 11 * 256 + 183;
        # 68520 + 11 * 24 + 183 * 25 = 73359; less 65521 it's 7838
        self.assertEqual(answer(68, 255, 255, 255, 255, 255, 16, *[255] * 16, 11, 183),
                         [7838, 1, 255, 4294967295, 16] + [255] * 16)

    def test_an_ordinary_one(self):
        # 68 + 2 * 2 + 1 * 5 + 2 * 6 + 3 * 7 + 9 * 8 + 8 * 9 + 7 * 10 = 324 = 256 + 68;
        # 324 + 1 * 11 + 68 * 12 = 1151
        self.assertEqual(answer(68, 2, 0, 0, 1, 2, 3, 9, 8, 7, 1, 68), [1151, 1, 2, 258, 3, 9, 8, 7])

    def test_the_place_s_bytes(self):
        # 68 + 1 * 3 + 2 * 4 + 3 * 5 + 4 * 6 = 118; 118 + 118 * 9 = 1180
        self.assertEqual(answer(68, 0, 1, 2, 3, 4, 0, 0, 118), [1180, 1, 0, 16909060, 0])

    def test_too_few_or_too_many_bytes_of_the_event(self):
        # 68 + 2 * 7 + 9 * 8 = 154; 154 + 154 * 10 = 1694
        self.assertEqual(answer(68, 0, 0, 0, 0, 0, 2, 9, 0, 154), [1694, 0])
        # 68 + 7 + 9 * 8 + 9 * 9 = 228; 228 + 228 * 11 = 2736
        self.assertEqual(answer(68, 0, 0, 0, 0, 0, 1, 9, 9, 0, 228), [2736, 0])
        # told 0, but there is one: 68 + 9 * 8 = 140; 140 + 140 * 10 = 1540
        self.assertEqual(answer(68, 0, 0, 0, 0, 0, 0, 9, 0, 140), [1540, 0])

    def test_an_event_of_sixteen_and_of_seventeen_bytes(self):
        # 68 + 16 * 7 = 180; 180 + 180 * 25 = 4680
        self.assertEqual(answer(68, 0, 0, 0, 0, 0, 16, *[0] * 16, 0, 180), [4680, 1, 0, 0, 16] + [0] * 16)
        # 68 + 17 * 7 = 187; 187 + 187 * 26 = 5049
        self.assertEqual(answer(68, 0, 0, 0, 0, 0, 17, *[0] * 17, 0, 187), [5049, 0])

    def test_as_long_as_a_row_may_be(self):
        # 31 bytes of an event: 68 + 31 * 7 = 285 = 256 + 29; 285 + 39 + 29 * 40 = 1484
        self.assertEqual(answer(68, 0, 0, 0, 0, 0, 31, *[0] * 31, 1, 29), [1484, 0])

    def test_without_a_length(self):
        # 68; 68 + 68 * 8 = 612
        self.assertEqual(answer(68, 0, 0, 0, 0, 0, 0, 68), [612, 0])
        # 68; 68 + 68 * 4 = 340: as short as an ask
        self.assertEqual(answer(68, 0, 0, 68), [340, 0])


class Ack(unittest.TestCase):
    def test_the_least(self):
        # 65; 65 + 65 * 10 = 715
        self.assertEqual(answer(65, 0, 0, 0, 0, 0, 0, 0, 0, 65), [715, 2, 0, 0, 0])

    def test_the_greatest(self):
        # 65 + 255 * (2 + .. + 8) = 8990 = 35 * 256 + 30; 8990 + 35 * 9 + 30 * 10 = 9605
        self.assertEqual(answer(65, *[255] * 7, 35, 30), [9605, 2, 255, 65535, 4294967295])

    def test_an_ordinary_one(self):
        # 65 + 1 * 2 + 50 * 4 + 200 * 8 = 1867 = 7 * 256 + 75; 1867 + 7 * 9 + 75 * 10 = 2680
        self.assertEqual(answer(65, 1, 0, 50, 0, 0, 0, 200, 7, 75), [2680, 2, 1, 50, 200])

    def test_the_bytes_of_its_numbers(self):
        # 65 + 1 * 3 + 2 * 4 + 3 * 5 + 4 * 6 + 5 * 7 + 6 * 8 = 198; 198 + 198 * 10 = 2178
        self.assertEqual(answer(65, 0, 1, 2, 3, 4, 5, 6, 0, 198), [2178, 2, 0, 258, 50595078])

    def test_too_short_or_too_long(self):
        # 65 + 65 * 9 = 650; 65 + 65 * 11 = 780
        self.assertEqual(answer(65, 0, 0, 0, 0, 0, 0, 0, 65), [650, 0])
        self.assertEqual(answer(65, 0, 0, 0, 0, 0, 0, 0, 0, 0, 65), [780, 0])
        # 65 + 65 * 4 = 325: as short as an ask
        self.assertEqual(answer(65, 0, 0, 65), [325, 0])


class Ask(unittest.TestCase):
    def test_each_machine(self):
        # 72; 72 + 72 * 4 = 360
        self.assertEqual(answer(72, 0, 0, 72), [360, 3, 0])
        # 72 + 3 * 2 = 78; 78 + 78 * 4 = 390
        self.assertEqual(answer(72, 3, 0, 78), [390, 3, 3])
        # 72 + 255 * 2 = 582 = 2 * 256 + 70; 582 + 2 * 3 + 70 * 4 = 868
        self.assertEqual(answer(72, 255, 2, 70), [868, 3, 255])

    def test_too_short_or_too_long(self):
        # 72 + 72 * 3 = 288; 72 + 72 * 5 = 432
        self.assertEqual(answer(72, 0, 72), [288, 0])
        self.assertEqual(answer(72, 0, 0, 0, 72), [432, 0])
        # as long as an ack: 72 + 72 * 10 = 792
        self.assertEqual(answer(72, 0, 0, 0, 0, 0, 0, 0, 0, 72), [792, 0])


class NoFrame(unittest.TestCase):
    def test_fewer_than_four_bytes(self):
        self.assertEqual(answer(), [0, 0])
        self.assertEqual(answer(72), [72, 0])
        self.assertEqual(answer(0, 0), [0, 0])
        self.assertEqual(answer(1, 2), [5, 0])
        self.assertEqual(answer(1, 2, 3), [14, 0])
        self.assertEqual(answer(0, 0, 0), [0, 0])

    def test_a_wrong_check(self):
        # 72 + 73 * 4 = 364; 72 + 1 * 3 + 72 * 4 = 363; 72 + 72 * 3 = 288
        self.assertEqual(answer(72, 0, 0, 73), [364, 0])
        self.assertEqual(answer(72, 0, 1, 72), [363, 0])
        self.assertEqual(answer(72, 0, 72, 0), [288, 0])
        self.assertEqual(answer(68, 0, 0, 0, 0, 0, 0, 0, 67), [671, 0])
        self.assertEqual(answer(65, 0, 0, 0, 0, 0, 0, 0, 0, 66), [725, 0])

    def test_a_wrong_first_byte(self):
        for first in [0, 64, 66, 67, 69, 71, 73, 255]:
            self.assertEqual(answer(first, 0, 0, first), [first * 5, 0])
            self.assertEqual(answer(first, 0, 0, 0, 0, 0, 0, 0, first), [first * 10, 0])
            self.assertEqual(answer(first, 0, 0, 0, 0, 0, 0, 0, 0, first), [first * 11, 0])

    def test_a_check_is_less_than_the_modulus(self):
        # 68 + 255 * 2 + 2 * 3 + 11 * 5 + 255 * 6 + 16 * 7 + 255 * (8 + .. + 23) = 65521: the check is 0
        body = [68, 255, 2, 0, 11, 255, 16] + [255] * 16
        self.assertEqual(answer(*body), [0, 0])
        self.assertEqual(answer(*body, 0, 0), [0, 1, 255, 33557503, 16] + [255] * 16)
        # 255 * 24 + 241 * 25 = 12145
        self.assertEqual(answer(*body, 255, 241), [12145, 0])

    def test_the_check_of_many_bytes(self):
        # 255 * (1 + .. + 40) = 209100; less three times 65521 it's 12537
        self.assertEqual(answer(*[255] * 40), [12537, 0])
        self.assertEqual(answer(*[0] * 40), [0, 0])
        self.assertEqual(answer(*[0] * 39, 255), [10200, 0])


class Refused(unittest.TestCase):
    def test_forty_numbers_and_more(self):
        self.assertEqual(told(frame(*[1] * 39), frame(*[1] * 40)), [[780, 0], [820, 0]])
        self.assertEqual(answered(*[frame(*[1] * length) for length in range(41, 51)]), [-1] * 10)

    def test_what_is_a_byte(self):
        self.assertEqual(told(frame(0), frame(255), frame(1, 255)), [[0, 0], [255, 0], [511, 0]])
        for wrong in [256, -1, GREATEST, -GREATEST]:
            self.assertEqual(answered(frame(wrong), frame(wrong, *[0] * 39), frame(*[0] * 39, wrong),
                                      frame(*[wrong] * 50)), [-1] * 4)

    def test_nothing_needs_to_be_open(self):
        calls = [frame(72, 0, 0, 72), frame(256), begin(1, 8, 50), frame(72, 0, 0, 72), frame(256), log(0, 1),
                 frame(72, 9, 0, 90), net(), totals()]
        self.assertEqual(told(*calls), [[360, 3, 0], [-1], [0], [360, 3, 0], [-1], [1], [450, 3, 9], [1, 0, 0, 10],
                                        [0, 0, 0, 0]])

    def test_frame_opens_nothing(self):
        self.assertEqual(told(frame(), net(), totals()), [[0, 0], [-2], [-2]])


if __name__ == "__main__":
    unittest.main()
