import unittest

from nursewire.frames import ACK, ASK, DATA, check_of, make_frame, read_frame


def with_check(body):
    check = check_of(body)
    return body + [check // 256, check % 256]


class Check(unittest.TestCase):
    def test_no_bytes(self):
        self.assertEqual(check_of([]), 0)

    def test_places_are_counted_from_one(self):
        self.assertEqual(check_of([5]), 5)
        self.assertEqual(check_of([72, 2]), 72 + 2 * 2)
        self.assertEqual(check_of([1, 2, 3]), 1 + 4 + 9)

    def test_order_of_bytes_matters(self):
        self.assertNotEqual(check_of([1, 2]), check_of([2, 1]))

    def test_below_the_modulus_as_it_is(self):
        self.assertEqual(check_of([255] * 22), 64515)

    def test_modulus(self):
        # 255 times 276 is 70380
        self.assertEqual(check_of([255] * 23), 70380 - 65521)

    def test_the_modulus_itself_is_zero(self):
        octets = [255] * 22 + [44]
        octets[5] = 254
        self.assertEqual(sum(b * (k + 1) for k, b in enumerate(octets)), 65521)
        self.assertEqual(check_of(octets), 0)
        octets[0] = 254
        self.assertEqual(check_of(octets), 65520)


class Written(unittest.TestCase):
    def test_ask(self):
        self.assertEqual(make_frame((ASK, 2)), [72, 2, 0, 76])

    def test_data(self):
        # 68 + 1 * 7 + 5 * 8 = 115
        self.assertEqual(make_frame((DATA, 0, 0, [5])), [68, 0, 0, 0, 0, 0, 1, 5, 0, 115])

    def test_data_without_bytes(self):
        # 68 + 3 * 2 + 9 * 6 = 128
        self.assertEqual(make_frame((DATA, 3, 9, [])), [68, 3, 0, 0, 0, 9, 0, 0, 128])

    def test_data_of_sixteen_bytes(self):
        # 68 + 3 * 2 + 199 * 6 + 16 * 7 + 255 * (8 + .. + 23) = 64620 = 252 * 256 + 108
        self.assertEqual(make_frame((DATA, 3, 199, [255] * 16)),
                         [68, 3, 0, 0, 0, 199, 16] + [255] * 16 + [252, 108])

    def test_ack(self):
        # 65 + 1 * 2 + 50 * 4 + 200 * 8 = 1867 = 7 * 256 + 75
        self.assertEqual(make_frame((ACK, 1, 50, 200)), [65, 1, 0, 50, 0, 0, 0, 200, 7, 75])

    def test_the_byte_worth_most_comes_first(self):
        self.assertEqual(make_frame((DATA, 0, 1 * 256 ** 3 + 2 * 256 ** 2 + 3 * 256 + 4, []))[2:6], [1, 2, 3, 4])
        self.assertEqual(make_frame((ACK, 0, 5 * 256 + 6, 7 * 256 ** 3 + 8))[2:8], [5, 6, 7, 0, 0, 8])

    def test_the_event_is_not_changed(self):
        event = [1, 2]
        make_frame((DATA, 0, 0, event))
        self.assertEqual(event, [1, 2])


class Read(unittest.TestCase):
    def test_each_kind(self):
        for told in [(ASK, 0), (ASK, 255), (DATA, 0, 0, []), (DATA, 255, 256 ** 4 - 1, [0, 255]),
                     (DATA, 1, 300, list(range(16))), (ACK, 0, 0, 0), (ACK, 255, 65535, 256 ** 4 - 1)]:
            self.assertEqual(read_frame(make_frame(told)), told)

    def test_written_by_hand(self):
        self.assertEqual(read_frame([72, 2, 0, 76]), (ASK, 2))
        self.assertEqual(read_frame([68, 0, 0, 0, 0, 0, 1, 5, 0, 115]), (DATA, 0, 0, [5]))
        self.assertEqual(read_frame([65, 1, 0, 50, 0, 0, 0, 200, 7, 75]), (ACK, 1, 50, 200))

    def test_too_short(self):
        for octets in [[], [72], [0, 0], [72, 0, 72], [0, 0, 0]]:
            self.assertIsNone(read_frame(octets))

    def test_wrong_check(self):
        self.assertIsNone(read_frame([72, 2, 0, 77]))
        self.assertIsNone(read_frame([72, 2, 1, 76]))
        self.assertIsNone(read_frame([72, 2, 76, 0]))

    def test_a_check_beyond_the_modulus(self):
        # the sum is 65521, so the check is 0, and 65521 (255 and 241) isn't taken for it
        body = [68, 255, 2, 0, 11, 255, 16] + [255] * 16
        self.assertEqual(read_frame(body + [0, 0]), (DATA, 255, 2 * 256 ** 3 + 11 * 256 + 255, [255] * 16))
        self.assertIsNone(read_frame(body + [255, 241]))

    def test_no_such_kind(self):
        for kind in [0, 64, 66, 67, 69, 71, 73, 255]:
            self.assertIsNone(read_frame(with_check([kind, 0])))
            self.assertIsNone(read_frame(with_check([kind, 0, 0, 0, 0, 0, 0])))
            self.assertIsNone(read_frame(with_check([kind, 0, 0, 0, 0, 0, 0, 0])))

    def test_a_body_of_another_length(self):
        ask = [72, 1]
        ack = [65, 1, 0, 0, 0, 0, 0, 1]
        data = [68, 1, 0, 0, 0, 0, 2, 7, 8]
        for body in [ask, ack, data]:
            self.assertIsNotNone(read_frame(with_check(body)))
            self.assertIsNone(read_frame(with_check(body + [0])))
            self.assertIsNone(read_frame(with_check(body[:-1])))

    def test_data_with_a_head_that_is_cut_off(self):
        for length in range(1, 7):
            self.assertIsNone(read_frame(with_check([68, 0, 0, 0, 0, 0, 0][:length])))

    def test_an_event_of_seventeen_bytes(self):
        head = [68, 0, 0, 0, 0, 0]
        self.assertIsNotNone(read_frame(with_check(head + [16] + [1] * 16)))
        self.assertIsNone(read_frame(with_check(head + [17] + [1] * 17)))
        self.assertIsNone(read_frame(with_check(head + [255] + [1] * 255)))

    def test_one_spoiled_byte_is_seen(self):
        for told in [(ASK, 3), (ACK, 2, 50, 199), (DATA, 1, 199, [255] * 16), (DATA, 0, 0, [])]:
            octets = make_frame(told)
            for k in range(len(octets)):
                for x in range(1, 256):
                    spoiled = list(octets)
                    spoiled[k] ^= x
                    self.assertIsNone(read_frame(spoiled), (told, k, x))


if __name__ == "__main__":
    unittest.main()
