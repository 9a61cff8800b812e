"""Tasks whose search [37] has just under, just and just over 1,000 cases: how many, whether a model is found, the task."""

THRESHOLDS = [
    (999, True, """slide 3
dial 5
rests 11 14 21 23
back 11 23
back 14 11
back 14 21
back 14 23
back 21 11
on 21 23
back 23 11"""),
    (1000, False, """dial 4
dial 4
rests 03 10 12 20 21 22 30 32
on 03 32
on 10 03
on 10 12
order 10 20 to 22
either 12 21
either 20 10
on 20 12
on 30 12
on 30 32
either 32 03
on 32 10
order 32 12 to 03 12 20 21 22 32"""),
    (1000, False, """free 2
free 2
free 2
free 2
rests 0000 0001 0011 0101 0110 1011 1110 1111
back 0000 1011
back 0001 0110
back 0001 1110
on 0011 0101
back 0101 0000
back 0101 0001
back 0101 0011
back 0110 1111
back 1011 0110
order 1011 1110 to 0110 1111
either 1011 1111
back 1111 0000
back 1111 0101
back 1111 1011"""),
    (1000, True, """dial 4
dial 4
rests 01 20 23 32
back 01 20
either 01 23
back 01 32
back 20 01
back 20 23
back 20 32
back 23 01
back 23 20
back 23 32
back 32 01
back 32 20
back 32 23"""),
    (1000, True, """free 2
free 2
free 2
free 2
rests 0001 1000 1110 1111
on 0001 1000
on 0001 1110
on 0001 1111
on 1000 0001
on 1000 1110
on 1000 1111
on 1110 0001
on 1110 1000
either 1110 1111
on 1111 0001
order 1111 1000 to 1110 1111
on 1111 1110"""),
    (1001, False, """dial 4
slide 3
rests 10 12 30 32
back 10 12
back 10 30
back 10 32
back 12 10
back 12 32
back 32 10
back 32 12"""),
    (1001, False, """free 2
free 2
slide 3
rests 002 010 011 111
back 002 111
on 010 002
on 010 111
on 011 002
on 111 002
on 111 010"""),
    (1001, True, """free 2
free 2
free 2
free 2
rests 0000 0011 0111 1010
back 0000 0111
back 0000 1010
back 0011 0000
back 0111 0000
back 0111 0011
back 0111 1010
back 1010 0111"""),
    (1001, True, """dial 4
dial 4
rests 22 30 32 33
back 22 30
back 22 32
back 22 33
back 30 22
back 30 32
back 30 33
back 32 22
either 32 30
back 32 33
back 33 22
back 33 30
back 33 32"""),
    (1002, False, """free 2
free 6
rests 00 02 04 11 13 14
on 00 11
on 02 14
on 11 04
on 13 02
on 14 00
on 14 02"""),
    (1002, True, """dial 4
slide 3
rests 11 22 30 32
either 11 32
back 22 11
back 22 32
back 30 11
back 30 32
back 32 22
back 32 30"""),
    (1005, True, """dial 4
slide 3
rests 10 12 20 32
back 10 12
back 10 32
back 12 20
back 20 10
back 32 12
back 32 20"""),
    (995, False, """free 2
free 6
rests 01 02 05 10 14 15
back 01 02
on 01 14
back 02 14
on 02 15
back 05 14
back 10 01
back 14 05
back 14 15
back 15 02
back 15 14"""),
]
