"""The examples of the document, as they stand there, by the number of their part."""

EXAMPLES = {
    1: """
>>> star = web_told("d:ab,ac,ad")
>>> star
(4, ((0, 1), (0, 2), (0, 3)))
>>> path = web_told("d:ab,bc,cd")
>>> [pieces(star, (0,)), odd_pieces(path, (1,)), inner(path, (0, 1, 3)), web_text(mirrored(path))]
[[(1,), (2,), (3,)], [(0,)], (3, ((0, 1),)), 'd:ac,ad,bd']
>>> [is_pairing(path, ((0, 1), (2, 3))), is_pairing(path, ((0, 1), (1, 2))), mate(path, ((1, 2),), 2), alone(path, ((1, 2),))]
[True, False, 1, (0, 3)]
>>> web_told("c:ab,ab")
raises InvalidText(6)
>>> web_told("c:bc,")
raises InvalidText(4)
>>> web_told("a:a")
raises InvalidText(2)
>>> web_told("c")
raises InvalidText(1)
""",
    2: """
>>> [greatest_size(star), spare(star), spare(path), excess(star, (0,)), excess(path, (1,)), excess(path, ())]
[1, 2, 0, 2, 0, 0]
>>> [spare_lot(star), is_greatest(star, ((0, 2),)), longer_row(star, ((0, 2),))]
[(0,), True, None]
>>> [is_longer_row(path, ((1, 2),), (0, 1, 2, 3)), is_longer_row(path, ((1, 2),), (0, 1)), lengthened(path, ((1, 2),), (3, 2, 1, 0))]
[True, False, ((0, 1), (2, 3))]
>>> completed(path, ((1, 2),))
((0, 1), (2, 3))
>>> longer_row(web_told("b:ab"), ()) in [(0, 1), (1, 0)]
True
""",
    3: """
>>> [lots(star), lots(path), open_pieces(star)]
[((1, 2, 3), (0,), ()), ((), (), (0, 1, 2, 3)), [(1,), (2,), (3,)]]
>>> tri = web_told("c:ab,ac,bc")
>>> [lots(tri), open_pieces(tri), leaving(tri, 1), leaving(star, 0)]
[((0, 1, 2), (), ()), [(0, 1, 2)], ((0, 2),), None]
>>> held(star, ((0, 3),))
[(0, (3,))]
>>> held(web_told("b:ab"), ())
raises NotGreatest
""",
    4: """
>>> ring = web_told("d:ab,ad,bc,cd")
>>> [fixed_ties(path), idle_ties(path), loose_ties(star), len(loose_ties(ring))]
[[(0, 1), (2, 3)], [(1, 2)], [(0, 1), (0, 2), (0, 3)], 4]
>>> [kind_between(path, 0, 3), kind_between(path, 0, 2), kind_between(star, 1, 2), greatest_with(path, (1, 2))]
['loose', 'idle', 'fixed', None]
>>> [lean_web(path), lean_pieces(path), is_covered(ring), is_covered(path)]
[(4, ((0, 1), (2, 3))), [(0, 1), (2, 3)], True, False]
>>> [tie_shares(star), alone_shares(star), share_of(ring, ((0, 1), (2, 3))), share_of(ring, ((0, 1), (0, 3)))]
[((1, 3), (1, 3), (1, 3)), ((0, 1), (2, 3), (2, 3), (2, 3)), (1, 2), (0, 1)]
""",
    5: """
>>> [barriers(path), greatest_barriers(path), barrier_core(path)]
[[(), (0,), (1,), (2,), (3,), (0, 2), (1, 2), (1, 3)], [(0, 2), (1, 2), (1, 3)], ()]
>>> [barriers(star), barrier_count(ring), is_barrier(ring, (0, 1)), barriers_over(path, (0,))]
[[(0,)], 7, False, 2]
>>> [barrier_over(path, (1, 2)), barrier_over(ring, (0, 1)), is_dear(path, (0, 3)), is_dear(path, ())]
[(1, 2), None, False, True]
>>> [place_classes(path), place_classes(ring)]
[[(0,), (1,), (2,), (3,)], [(0, 2), (1, 3)]]
>>> [pieces_left(star, (0,)), met_pieces(star, (0,), ((0, 2),))]
[[(1,), (2,), (3,)], [(0, (2,))]]
>>> pieces_left(ring, (0, 1))
raises NotBarrier(-2)
""",
    6: """
>>> bow = (5, ((0, 1), (0, 2), (1, 2), (2, 3), (2, 4), (3, 4)))
>>> [is_near_full(bow), near_pairing(bow, 2), near_counts(bow), lumps(bow)]
[True, ((0, 1), (3, 4)), (1, 1, 1, 1, 1), [(0, 1, 2), (2, 3, 4)]]
>>> is_odd_ears(bow, 0, [(0, 1, 2, 0), (2, 3, 4, 2)])
True
>>> is_odd_ears(bow, 0, [(2, 3, 4, 2), (0, 1, 2, 0)])
False
>>> near_by_ears(bow, 0, [(0, 1, 2, 0), (2, 4, 3, 2)], 4)
((0, 1), (2, 3))
>>> is_ears_along(bow, ((1, 2), (3, 4)), [(0, 2, 1, 0), (2, 3, 4, 2)])
True
>>> fork = (5, ((0, 1), (0, 2), (0, 3), (0, 4), (1, 2)))
>>> [hindrance(fork), near_pairing(fork, 0)]
[(0,), None]
>>> odd_ears(fork, 1)
raises NotBuilt((0,))
>>> is_odd_ears((1, ()), 0, [])
True
""",
}
