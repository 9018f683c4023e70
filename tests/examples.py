"""The examples of the document, as they stand there, by the number of their part."""

EXAMPLES = {
    1: """
>>> star = web_told("d:ab,ac,ad")
>>> star
(4, ((0, 1), (0, 2), (0, 3)))
>>> path = web_told("d:ab,bc,cd")
>>> [pieces(star, (0,)), odd_pieces(path, (1,)), inner(path, (0, 1, 3)), web_text(mirrored(path))]
[[(1,), (2,), (3,)], [(0,)], (3, ((0, 1),)), 'd:ac,ad,bd']
>>> [is_pairing(path, ((0, 1), (2, 3))), is_pairing(path, ((0, 1), (1, 2))), mate(path, ((1, 2),), 2), alone(path, ((1, 2),))]
[True, False, 1, (0, 3)]
>>> web_told("c:ab,ab")
raises InvalidText(6)
>>> web_told("c:bc,")
raises InvalidText(4)
>>> web_told("a:a")
raises InvalidText(2)
>>> web_told("c")
raises InvalidText(1)
""",
    2: """
>>> [greatest_size(star), spare(star), spare(path), excess(star, (0,)), excess(path, (1,)), excess(path, ())]
[1, 2, 0, 2, 0, 0]
>>> [spare_lot(star), is_greatest(star, ((0, 2),)), longer_row(star, ((0, 2),))]
[(0,), True, None]
>>> [is_longer_row(path, ((1, 2),), (0, 1, 2, 3)), is_longer_row(path, ((1, 2),), (0, 1)), lengthened(path, ((1, 2),), (3, 2, 1, 0))]
[True, False, ((0, 1), (2, 3))]
>>> completed(path, ((1, 2),))
((0, 1), (2, 3))
>>> longer_row(web_told("b:ab"), ()) in [(0, 1), (1, 0)]
True
""",
    3: """
>>> [lots(star), lots(path), open_pieces(star)]
[((1, 2, 3), (0,), ()), ((), (), (0, 1, 2, 3)), [(1,), (2,), (3,)]]
>>> tri = web_told("c:ab,ac,bc")
>>> [lots(tri), open_pieces(tri), leaving(tri, 1), leaving(star, 0)]
[((0, 1, 2), (), ()), [(0, 1, 2)], ((0, 2),), None]
>>> held(star, ((0, 3),))
[(0, (3,))]
>>> held(web_told("b:ab"), ())
raises NotGreatest
""",
    4: """
>>> ring = web_told("d:ab,ad,bc,cd")
>>> [fixed_ties(path), idle_ties(path), loose_ties(star), len(loose_ties(ring))]
[[(0, 1), (2, 3)], [(1, 2)], [(0, 1), (0, 2), (0, 3)], 4]
>>> [kind_between(path, 0, 3), kind_between(path, 0, 2), kind_between(star, 1, 2), greatest_with(path, (1, 2))]
['loose', 'idle', 'fixed', None]
>>> [lean_web(path), lean_pieces(path), is_covered(ring), is_covered(path)]
[(4, ((0, 1), (2, 3))), [(0, 1), (2, 3)], True, False]
>>> [tie_shares(star), alone_shares(star), share_of(ring, ((0, 1), (2, 3))), share_of(ring, ((0, 1), (0, 3)))]
[((1, 3), (1, 3), (1, 3)), ((0, 1), (2, 3), (2, 3), (2, 3)), (1, 2), (0, 1)]
""",
    5: """
>>> [barriers(path), greatest_barriers(path), barrier_core(path)]
[[(), (0,), (1,), (2,), (3,), (0, 2), (1, 2), (1, 3)], [(0, 2), (1, 2), (1, 3)], ()]
>>> [barriers(star), barrier_count(ring), is_barrier(ring, (0, 1)), barriers_over(path, (0,))]
[[(0,)], 7, False, 2]
>>> [barrier_over(path, (1, 2)), barrier_over(ring, (0, 1)), is_dear(path, (0, 3)), is_dear(path, ())]
[(1, 2), None, False, True]
>>> [place_classes(path), place_classes(ring)]
[[(0,), (1,), (2,), (3,)], [(0, 2), (1, 3)]]
>>> [pieces_left(star, (0,)), met_pieces(star, (0,), ((0, 2),))]
[[(1,), (2,), (3,)], [(0, (2,))]]
>>> pieces_left(ring, (0, 1))
raises NotBarrier(-2)
""",
    6: """
>>> bow = (5, ((0, 1), (0, 2), (1, 2), (2, 3), (2, 4), (3, 4)))
>>> [is_near_full(bow), near_pairing(bow, 2), near_counts(bow), lumps(bow)]
[True, ((0, 1), (3, 4)), (1, 1, 1, 1, 1), [(0, 1, 2), (2, 3, 4)]]
>>> is_odd_ears(bow, 0, [(0, 1, 2, 0), (2, 3, 4, 2)])
True
>>> is_odd_ears(bow, 0, [(2, 3, 4, 2), (0, 1, 2, 0)])
False
>>> near_by_ears(bow, 0, [(0, 1, 2, 0), (2, 4, 3, 2)], 4)
((0, 1), (2, 3))
>>> is_ears_along(bow, ((1, 2), (3, 4)), [(0, 2, 1, 0), (2, 3, 4, 2)])
True
>>> fork = (5, ((0, 1), (0, 2), (0, 3), (0, 4), (1, 2)))
>>> [hindrance(fork), near_pairing(fork, 0)]
[(0,), None]
>>> odd_ears(fork, 1)
raises NotBuilt((0,))
>>> is_odd_ears((1, ()), 0, [])
True
""",
    7: """
>>> six = (6, ((0, 1), (0, 5), (1, 2), (2, 3), (3, 4), (4, 5)))
>>> is_covered_ears(six, (0, 1), [((1, 2, 3, 4, 5, 0),)])
True
>>> [takes_ear(six, 0, 2), takes_ear(six, 0, 3)]
[False, True]
>>> all_tied = (4, ((0, 1), (0, 2), (0, 3), (1, 2), (1, 3), (2, 3)))
>>> is_covered_ears(all_tied, (0, 1), [((1, 2, 3, 0),), ((0, 2), (1, 3))])
True
>>> is_covered_ears(all_tied, (0, 1), [((1, 2, 3, 0),), ((0, 2),), ((1, 3),)])
False
>>> comb = (6, ((0, 1), (0, 2), (1, 3), (1, 4), (2, 4), (4, 5)))
>>> [bridges(comb), is_lone_row(comb, [(4, 5), (1, 3), (0, 2)]), is_lone_row(comb, [(0, 2), (4, 5), (1, 3)])]
[[(1, 3), (4, 5)], True, False]
>>> covered_ears(comb, (0, 2))
raises NotCovered((0, 1))
""",
    8: """
>>> six = (6, ((0, 1), (0, 5), (1, 2), (2, 3), (3, 4), (4, 5)))
>>> [difference(six, ((0, 1), (2, 3), (4, 5)), ((0, 5), (1, 2), (3, 4))), len(small_classes(six))]
[[('round', (0, 1, 2, 3, 4, 5))], 2]
>>> line = (5, ((0, 1), (1, 2), (2, 3), (3, 4)))
>>> [switched(line, ((0, 1), (2, 3)), ("row", (2, 3, 4))), is_switch(line, ((0, 1), (2, 3)), ("row", (0, 1, 2))), between_count(line, ((0, 1), (2, 3)), ((1, 2), (3, 4)))]
[((0, 1), (3, 4)), False, 3]
>>> [nth_between(line, ((0, 1), (2, 3)), ((1, 2), (3, 4)), 1), len(small_row(line, ((0, 1), (2, 3)), ((1, 2), (3, 4)))), switch_to_alone(line, ((0, 1), (2, 3)), 1)]
[((0, 1), (3, 4)), 2, None]
>>> hubs = web_told("j:ae,af,ag,ah,ai,aj,be,bf,bg,bh,bi,bj,ce,cf,cg,ch,ci,cj,de,df,dg,dh,di,dj")
>>> here = ((0, 4), (1, 5), (2, 6), (3, 7))
>>> there = ((0, 5), (1, 4), (2, 8), (3, 9))
>>> [len(difference(hubs, here, there)), fewest_switches(hubs, here, there)]
[3, 2]
>>> is_switch_row(hubs, here, there, [("row", (6, 2, 5, 1, 4, 0, 7, 3, 8)), ("row", (7, 0, 5, 2, 8, 3, 9))])
True
>>> switched(line, ((0, 1), (2, 3)), ("row", (0, 1, 2)))
raises InvalidSwitch
""",
    9: """
>>> two = (7, ((0, 3), (0, 4), (1, 4), (1, 5), (2, 5), (2, 6)))
>>> [sides(two), greatest_lack(two), short_ends(two), short_lot_count(two)]
[((0, 1, 2), (3, 4, 5, 6)), 0, ((), ()), 1]
>>> steps = (6, ((0, 3), (1, 3), (1, 4), (2, 4), (2, 5)))
>>> [short_lot_count(steps), nth_short_lot(steps, 2), cover_by(steps, (0, 1)), is_short_lot(steps, (1,))]
[4, (0, 1), (2, 3, 4), False]
>>> blocks(steps)
((), ((0, 3), (1, 4), (2, 5)), ((1, 0), (2, 1)), ())
>>> [short_ends((4, ((0, 1), (1, 2), (1, 3)))), blocks((4, ((0, 1), (1, 2), (1, 3))))]
[((0, 2, 3), (0, 2, 3)), ((0, 1, 2, 3), (), (), ())]
>>> [len(tie_parting(steps)), len(least_cover(steps)), partners(steps, (0, 4))]
[2, 3, (1, 2, 3)]
""",
    # The end of Part 9, and Part 10.
    10: """
>>> four = (4, ((0, 1), (0, 2), (0, 3), (1, 2), (1, 3), (2, 3)))
>>> is_mixture(four, ((1, 2), (1, 2), (0, 1), (0, 1), (1, 2), (1, 2)), [((1, 2), ((0, 2), (1, 3))), ((1, 2), ((0, 1), (2, 3)))])
True
>>> prism = (6, ((0, 1), (0, 2), (0, 3), (1, 2), (1, 4), (2, 5), (3, 4), (3, 5), (4, 5)))
>>> crossing(prism, ((1, 2), (1, 2), (0, 1), (1, 2), (0, 1), (0, 1), (1, 2), (1, 2), (1, 2)), (0, 1, 2))
(0, 1)
>>> mixture(prism, ((1, 2), (1, 2), (0, 1), (1, 2), (0, 1), (0, 1), (1, 2), (1, 2), (1, 2)))
raises NotMixture((0, 1, 2))
>>> square = web_told("d:ab,ad,bc,cd")
>>> [pairing_counts(path), pairing_counts(square), pairing_total(path), greatest_count(square), full_count((3, ((0, 1),)))]
[[1, 3, 1], [1, 4, 2], 5, 2, 0]
>>> [odd_lots(path), even_lot(path), is_even_lot(square, (0, 2)), odd_lots(square)]
[[(1, 3), (0,), (3,), (0, 2)], None, True, None]
>>> [nth_pairing(path, 2), nth_pairing(path, 5), nth_pairing(path, 1, size=1), pairing_rank(path, ((1, 2),))]
[((0, 1), (2, 3)), None, ((1, 2),), 3]
>>> [pairing_rank(path, ((2, 3),), sized=True), next_pairing(path, ((0, 1),)), next_pairing(path, ((0, 1),), sized=True)]
[2, ((0, 1), (2, 3)), ((1, 2),)]
>>> chance_paper(path, 0)
[((0,), (3, 5)), ((0, 1), (2, 3)), ((0, 1, 2), (1, 2)), ((0, 1, 2, 3), (1, 1))]
>>> [alone_chance(path, 0), tie_chance(path, (0, 1)), alone_chance(path, 0, worth=(2, 1)), expected_ties(path)]
[(3, 5), (2, 5), (5, 11), (1, 1)]
>>> [near_chance(path, 0, number) for number in (0, 1, 2, 3, 4)]
[(1, 1), (1, 2), (2, 3), (3, 5), (3, 5)]
""",
    11: """
>>> [heaviest(path, (1, 5, 1)), size_weights(path, (1, 5, 1)), pricing_cost(tri, (1, 1, 1), ((0, 0, 0), [((0, 1, 2), 1)]))]
[(5, ((1, 2),)), [0, 5, 2], 1]
>>> is_pricing(path, (1, 5, 1), ((0, 1, 4, 0), []))
True
>>> [mover_wins(path, (0,)), winning_moves(path, (1,)), winning_moves(tri, (0,)), winning_starts(tri), winning_starts(path)]
[True, [0], [], [0, 1, 2], []]
""",
    12: """
>>> all4 = web_told("d:ab,ac,ad,bc,bd,cd")
>>> [leaving_lots(tri), best_leaving(tri, (1, 9, 1)), greatest_holding(path, ((1, 2),)), greatest_leaving(tri, (0,)), greatest_leaving(tri, (0, 1))]
[[(0,), (1,), (2,)], (9, (1,)), None, ((1, 2),), None]
>>> [lost(path, ((0, 1),)), is_loss(path, (((0, 1),), ())), unextended(path, 1), unfull_without_two(path), unfull_without_two(all4)]
[1, True, ((1, 2),), (0, 2, (0, 2)), None]
""",
    13: """
>>> [stretched((2, ((0, 1),)), (0, 1)), doubled(star, 0, (1, 2))]
[(4, ((0, 2), (1, 3), (2, 3))), (6, ((0, 3), (0, 5), (1, 4), (2, 4), (4, 5)))]
>>> [web_text(put_in(path, 1, (2, ()))), web_text(drawn(path, (0, 2))), web_text(joined_webs((1, ()), (2, ())))]
['e:ad,ae,bc,bd,be', 'c:ac,bc', 'c:ab,ac']
>>> to_doubled(star, 0, (1, 2), ((0, 2),))
((0, 5), (2, 4))
>>> from_doubled(star, 0, (1, 2), ((0, 3), (1, 4)))
((0, 3),)
>>> kernel(star)
(None, [('hanging', 1, 0), ('alone', 0), ('alone', 0)])
>>> kernel(web_told("d:ab,ad,bc,cd"))
(None, [('drawn', 0, 1, 3), ('hanging', 0, 1)])
>>> from_drawn(web_told("d:ab,ac,bc,cd"), (0, 1, 2), ((0, 1),))
((0, 1), (2, 3))
>>> from_drawn(path, (0, 1, 2), ())
raises NotNearFull(1)
""",
    14: """
>>> live = Live(path)
>>> [live.pairing, live.untie(0, 1), live.sizes(), live.row(0), live.lots()]
[((0, 1), (2, 3)), None, [2, 1], (), ((0, 1, 3), (2,), ())]
>>> [live.come((0, 3)), len(live.row(1)) > 0, live.sizes(), live.next_mark]
[4, True, [2, 1, 2], 5]
>>> [live.release(0), (0 in [mark for pair in live.pairing for mark in pair]), live.undo()]
[None, False, ('release', 0)]
>>> live.choose(2, 1), live.would(("leave", 2))[0]
(None, 1)
>>> live.tie(2, 3)
raises Refused
>>> pins = PinnedLive(path)
>>> [pins.pin(0, 1), pins.pinned(), pins.double(0, (1,)), pins.pinned()]
[None, [(0, 1)], (4, 5), [(1, 4)]]
>>> pins.choose(1, 2)
raises Refused
>>> two = PinnedLive(web_told("b:ab"))
>>> [two.pin(0, 1), two.come((0,)), two.may_leave(2), two.pinned()]
[None, 2, True, [(0, 1)]]
>>> two.come((1,))
raises Refused
""",
    15: """
>>> [paper_text(star, ((0, 2),), (0,)), paper_told("d:ab,bc,cd;ab,cd;")]
['d:ab,ac,ad;ac;a', ((4, ((0, 1), (1, 2), (2, 3))), ((0, 1), (2, 3)), ())]
>>> paper_told("d:ab,ac,ad;ab,ac;")
raises InvalidText(14)
>>> paper_told("d:ab,ac,ad;ab,aa;")
raises InvalidText(15)
>>> paper_text(star, ((0, 2),), ())
raises NotMeeting(2)
>>> console = Console()
>>> console.execute("run web a d:ab,bc,cd; pairing; come 0; sizes; lots; journal")
'ok; 0-1 2-3; 4; 2 2; 1+3+4 0+2 none; web a d:ab,bc,cd; come 0'
>>> [console.execute("paper"), console.execute("may 4"), console.execute("undo"), console.execute("alone")]
['e:ab,ae,bc,cd;ab,cd;ac', 'yes', 'come 0', 'none']
>>> console.execute("pin 0 1")
raises Refused
""",
}
