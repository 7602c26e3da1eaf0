"""Texts of parts, and what reading them told before it became faster: uses and types, or an error."""

ANSWERS = (
    ("""part second
kind m 20
kind n 5
well w m 3
well v n 2
dish d m n 4
use f m:-1 n:3 -> m:-:1:2 n:4:-:1 1
use g -> m:5 7
procedure h x:m y:n -> x
call f x y -> x z
get a w
if
mix b a + x
put s b
wait 3
take c s
else
scale c x 2
wait 2
end
while
get x w
wait 1
end
dish y d x
end
procedure k -> x
get x w
call g -> y
copy x y
end""",
     ('read',
      'second',
      (('f', 'LifeType((20, 5), (-1, 3), 1, (LifeRow(None, (1, 2)), LifeRow(4, (None, 1))), False)'),
       ('g', 'LifeType((), (), 7, (LifeRow(5, ()),), False)')),
      (('h', 'LifeType((20, 5), (61, 61), 60, (None,), True)'),
       ('k', 'LifeType((), (), 12, (LifeRow(3, ()),), False)')))),
    ("""part aa
kind k 1
kind l e
well wk k 9
well wl l 2
use g l:1 k:61 -> l:32:0:0 l:11:1:61 61
procedure p a:l -> d c
copy c d
get d wl
end""",
     ('InvalidText', (2,))),
    ("""part bb
kind k 9
kind l 1
kind m 11
well wk k 1
well wl l 2
well wm m 2
dish e m l 1
dish f l k 9
use g k:12 k:3 -> 61
procedure p a:m -> a
mix d a + a
end
procedure q a:l b:m c:m ->
scale c b 0
scale d b 8
get c wm
end
procedure r a:m b:m -> d d
get d wm
mix c a - d
end""",
     ('read',
      'bb',
      (('g', 'LifeType((9, 9), (12, 3), 61, (), False)'),),
      (('p', 'LifeType((11,), (0,), 1, (LifeRow(None, (1,)),), False)'),
       ('q', 'LifeType((1, 11, 11), (-1, 1, -1), 4, (), False)'),
       ('r', 'LifeType((11, 11), (2, -1), 3, (LifeRow(10, (None, None)), LifeRow(10, (None, None))), False)')))),
    ("""part cc
kind k 3
kind l 2
well wk k 1
well wl l 2
dish e l l 1
dish f k l 2
use g l:61 -> 1
procedure p ->
end""",
     ('read', 'cc', (('g', 'LifeType((2,), (61,), 1, (), False)'),), (('p', 'LifeType((), (), 0, (), False)'),))),
    ("""part dd
kind k 6
kind l 11
well wk k 9
well wl l 9
dish e k l 9
dish f k l 9
while
use h -> 5
procedure p a:k b:k ->
use g -> l:42 60
mix b b + b
end
copy d b
call h ->
put s b
get b wk
end""",
     ('InvalidText', (7,))),
    ("""part ee
kind k 2
well wk k 1
dish e k k 1
dish f k k 3
use g k:8 -> k:60:- 61
use h k:39 k:8 -> 1
use i -> k:3 61
procedure p a:k b:k -> b
call h a a ->
end""",
     ('read',
      'ee',
      (('g', 'LifeType((2,), (8,), 61, (LifeRow(60, (None,)),), False)'),
       ('h', 'LifeType((2, 2), (39, 8), 1, (), False)'),
       ('i', 'LifeType((), (), 61, (LifeRow(3, ()),), False)')),
      (('p', 'LifeType((2, 2), (61, 61), 60, (None,), True)'),))),
    ("""part ff
kind k 3
kind l 6
well wk k 2
well wl l 2
dish e k k 1
use g k:-1 k:-1 -> l:0:1:- l:-:1:0 1
procedure p a:k ->
get c wk
end""",
     ('read',
      'ff',
      (('g', 'LifeType((3, 3), (-1, -1), 1, (LifeRow(0, (1, None)), LifeRow(None, (1, 0))), False)'),),
      (('p', 'LifeType((3,), (-1,), 2, (), False)'),))),
    ("""part gg
kind k 8
kind l 1
kind m 9
well wk k 1
well wl l 1
well wm m 9
dish e k l 2
use g k:3 m:8 -> k:-:-:61 l:-:1:61 1
use h m:61 -> never
use i -> 5
procedure p a:m b:k -> b
while
put s a
end
mix b b + b
end""",
     ('Unfilled', ('p', 1, 's', (True, True)))),
    ("""part hh
kind k 10
kind l 1
kind m 6
well wk k 2
well wl l 1
well wm m 9
dish e k l 2
dish f m m 1
use g -> k:7 60
use h m:8 m:1 -> m:60:0:61 60
procedure p a:k -> c
put s a
take d s
copy d d
scale a d 2
dish c e a
end
procedure q -> a
get a wk
call g -> d
mix a d - d
get b wl
end""",
     ('read',
      'hh',
      (('g', 'LifeType((), (), 60, (LifeRow(7, ()),), False)'),
       ('h', 'LifeType((6, 6), (8, 1), 60, (LifeRow(60, (0, 61)),), False)')),
      (('p', 'LifeType((10,), (2,), 6, (LifeRow(1, (None,)),), False)'),
       ('q', 'LifeType((), (), 60, (LifeRow(4, ()),), False)')))),
    ("""part ii
kind k 9
kind l 11
kind m 12
well wk k 9
well wl l 1
well wm m 1
dish e m k 3
dish f l l 1
use g m:61 -> never
use h l:-1 -> 61
use i l:0 k:61 -> 61
procedure p a:k b:k -> a
while
put s a
end
end
procedure q a:m b:k c:l -> a c
dish d f c
get b wk
end""",
     ('Unfilled', ('p', 1, 's', (True, True)))),
    ("""part jj
kind k 6
kind l 12
kind m 0
well wk k 2
well wl l -9
well wm m 1
dish e k m 2
dish f l m 1
procedure p a:l b:k c:k -> b b
while
end m
end""",
     ('InvalidText', (11,))),
    ("""part kk
kind k 9
kind l 2
well wk k 2
well wl l 1
dish e l k 9
dish f l l 2
procedure p a:l ->
if
else
put s a
take c s
dish c f c
end
end
get c wl
end""",
     ('InvalidText', (15,))),
    ("""part ll
kind k 4
kind l 1
well wk k 1
well wl l 1
dish e l k 2
dish f l l 3
use g -> k:5 1
use h k:1 l:1 l:8 -> k:60:61:-:61 l:60:5:0:61 61
use i k:61 -> l:-:1 5
procedure p a:l ->
mix b a + a
get c wk
dish d e a
end
procedure q a:l b:l c:l -> b d
put s c
get d wk
copy a a
scale a b -5
copy d d
end""",
     ('read',
      'll',
      (('g', 'LifeType((), (), 1, (LifeRow(5, ()),), False)'),
       ('h', 'LifeType((4, 1, 1), (1, 1, 8), 61, (LifeRow(60, (61, None, 61)), LifeRow(60, (5, 0, 61))), False)'),
       ('i', 'LifeType((4,), (61,), 5, (LifeRow(None, (1,)),), False)')),
      (('p', 'LifeType((1,), (61,), 60, (), True)'),
       ('q', 'LifeType((1, 1, 1), (61, 61, 61), 60, (None, None), True)')))),
    ("""part mm
kind k 0
kind l 11
kind m 9
well wk k 2
well wl l 1
well wm m 2
dish e l k 9
use g l:45 m:1 -> l:-:5:0 60
procedure p a:m ->
put s a
get b wm
take d s
end
procedure q a:l -> b b
mix b a - a
get a wl
end
procedure r ->
end""",
     ('read',
      'mm',
      (('g', 'LifeType((11, 9), (45, 1), 60, (LifeRow(None, (5, 0)),), False)'),),
      (('p', 'LifeType((9,), (0,), 4, (), False)'),
       ('q', 'LifeType((11,), (0,), 2, (LifeRow(None, (2,)), LifeRow(None, (2,))), False)'),
       ('r', 'LifeType((), (), 0, (), False)')))),
    ("""part nn
kind k 12
kind l 12
well wk k 1
well wl l 1
dish e l l 1
use g k:8 k:8 l:41 -> k:-:61:61:0 61
use h k:55 l:3 l:0 -> 61
use i l:8 -> l:0:5 0
procedure p a:l -> c c
scale c a 3
end""",
     ('read',
      'nn',
      (('g', 'LifeType((12, 12, 12), (8, 8, 41), 61, (LifeRow(None, (61, 61, 0)),), False)'),
       ('h', 'LifeType((12, 12, 12), (55, 3, 0), 61, (), False)'),
       ('i', 'LifeType((12,), (8,), 0, (LifeRow(0, (5,)),), False)')),
      (('p', 'LifeType((12,), (0,), 1, (LifeRow(None, (1,)), LifeRow(None, (1,))), False)'),))),
    ("""part oo
kind k 11
well wk k 2
use g -> 0
use h k:61 -> k:5:5 60
use i k:38 k:1 -> k:45:1:0 k:0:-:- 61
procedure p -> c
get d wk
call h d -> d
get c wk
scale c d -7
end""",
     ('read',
      'oo',
      (('g', 'LifeType((), (), 0, (), False)'),
       ('h', 'LifeType((11,), (61,), 60, (LifeRow(5, (5,)),), False)'),
       ('i', 'LifeType((11, 11), (38, 1), 61, (LifeRow(45, (1, 0)), LifeRow(0, (None, None))), False)')),
      (('p', 'LifeType((), (), 60, (None,), True)'),))),
    ("""part pp
kind k 5
kind l 6
well wk k 2
well wl l 1
use g -> k:60 k:-1 60
procedure p a:l ->
put s a
end
procedure q a:k ->
put s a
end""",
     ('read',
      'pp',
      (('g', 'LifeType((), (), 60, (LifeRow(60, ()), LifeRow(-1, ())), False)'),),
      (('p', 'LifeType((6,), (0,), 1, (), False)'), ('q', 'LifeType((5,), (0,), 1, (), False)')))),
    ("""part qq
kind k 0
kind l 9
kind m 10
well wl l 1
well wk k 1
well wm m 2
dish e m l 1
use g l:52 m:3 -> m:5:0:5 m:49:0:5 5
procedure p a:l b:m c:k ->
put s a
mix c c + c
get a wl
put t a
end""",
     ('read',
      'qq',
      (('g', 'LifeType((9, 10), (52, 3), 5, (LifeRow(5, (0, 5)), LifeRow(49, (0, 5))), False)'),),
      (('p', 'LifeType((9, 10, 0), (61, 61, 61), 60, (), True)'),))),
    ("""part rr
kind k 10
well wk k 2
use g k:-1 k:-1 -> 0
use h k:1 k:61 k:0 -> k:60:61:61:5 60
use i k:61 k:1 k:3 -> k:0:-:5:0 0
procedure p ->
if
if
else
end
else
end
end
procedure q a:k b:k c:k ->
while
end
put s c
call g b b -> d
end
procedure r a:k ->
wait 1
end""",
     ('InvalidProgram', ('count', 1, 2))),
    ("""part ss
kind k 5
kind l 8
kind m 8
well wk k 9
well wl l 2
well wm m 1
dish e l k 9
use g k:3 -> m:60:5 k:45:61 61
use h m:61 -> never
procedure p a:k b:l c:l -> b b
call g a -> d a
end
procedure q ->
wait 1
end
procedure r a:m b:l ->
call q ->
get d wl
end""",
     ('read',
      'ss',
      (('g', 'LifeType((5,), (3,), 61, (LifeRow(60, (5,)), LifeRow(45, (61,))), False)'),
       ('h', 'LifeType((8,), (61,), 60, (), True)')),
      (('p', 'LifeType((5, 8, 8), (3, -1, -1), 60, (None, None), False)'),
       ('q', 'LifeType((), (), 1, (), False)'),
       ('r', 'LifeType((8, 8), (-1, -1), 4, (), False)')))),
    ("""part tt
kind k 4
kind l 0
well wk k 1
well wl l 9
dish e l k 3
use g l:61 -> l:0:61 5
use h l:1 -> l:23:61 60
procedure p a:l ->
mix c a - a
mix c a + c
call h c -> a
mix c c - c
end""",
     ('read',
      'tt',
      (('g', 'LifeType((0,), (61,), 5, (LifeRow(0, (61,)),), False)'),
       ('h', 'LifeType((0,), (1,), 60, (LifeRow(23, (61,)),), False)')),
      (('p', 'LifeType((0,), (61,), 60, (), True)'),))),
    ("""part uu
kind k 7
kind l 8
well wk k 9
well wl l 2
dish e k k 1
dish f l k 9
use g -> 60
use h l:3 k:0 -> 60
procedure p a:k -> a a
if
get d wl
while
put s a
get a wk
end
else
end
end""",
     ('Unfilled', ('p', 3, 's', (True, True, True)))),
    ("""part vv
kind k 12
kind l 5
well wk k 9
well wl l 2
dish e l k 1
use g k:0 k:1 -> k:0:1:- l:2:1:61 0
use h l:-1 k:1 -> l:0:5:1 0
use i k:3 -> 5
procedure p a:l b:k ->
call i b ->
while
end
end
procedure q a:l b:k c:l -> d
get d wk
get a wl
end""",
     ('read',
      'vv',
      (('g', 'LifeType((12, 12), (0, 1), 0, (LifeRow(0, (1, None)), LifeRow(2, (1, 61))), False)'),
       ('h', 'LifeType((5, 12), (-1, 1), 0, (LifeRow(0, (5, 1)),), False)'),
       ('i', 'LifeType((12,), (3,), 5, (), False)')),
      (('p', 'LifeType((5, 12), (-1, 3), 60, (), False)'),
       ('q', 'LifeType((5, 12, 5), (-1, -1, -1), 11, (LifeRow(10, (None, None, None)),), False)')))),
    ("""part ww
kind k 10
kind l 3
kind m 2
well wl l 9
well wm m 2
use g l:0 m:1 -> 1
procedure p a:m -> a
get c wk
end""",
     ('InvalidProgram', ('unknown', 0, 0))),
    ("""part xx
kind k 8
well wk k 1
use g k:8 -> k:0:- 5
use h k:-1 k:6 -> k:-1:0:- 5
procedure p a:k -> a
mix c a + a
end""",
     ('read',
      'xx',
      (('g', 'LifeType((8,), (8,), 5, (LifeRow(0, (None,)),), False)'),
       ('h', 'LifeType((8, 8), (-1, 6), 5, (LifeRow(-1, (0, None)),), False)')),
      (('p', 'LifeType((8,), (0,), 1, (LifeRow(None, (1,)),), False)'),))),
    ("""part yy
kind k 8
kind l 2
kind m 0
well wk k 2
well wl l 2
well wm m 1
dish e m l 3
use g l:3 m:1 m:3 -> l:0:0:61:1 1
use h k:61 -> k:sour never
use i l:52 -> k:60:1 0
procedure p a:m b:m -> a a
copy b b
if
else
end
end
procedure q a:k ->
mix a a + a
get b wl
call i b -> a
mix c a - a
get d wm
end""",
     ('read',
      'yy',
      (('g', 'LifeType((2, 0, 0), (3, 1, 3), 1, (LifeRow(0, (0, 61, 1)),), False)'),
       ('h', 'LifeType((8,), (61,), 60, (None,), True)'),
       ('i', 'LifeType((2,), (52,), 0, (LifeRow(60, (1,)),), False)')),
      (('p', 'LifeType((0, 0), (-1, -1), 2, (None, None), False)'), ('q', 'LifeType((8,), (61,), 60, (), True)')))),
    ("""part zz
kind k 7
well wk k 1
dish e k k 9
dish f k k 3
use g -> k:0 1
use h k:1 -> k:9:5 5
procedure p a:k b:k -> c c
put s b
take a s
mix c a + a
wait 1
dish a e c
mix c a - c
end
procedure q a:k b:k c:k -> a a
end""",
     ('read',
      'zz',
      (('g', 'LifeType((), (), 1, (LifeRow(0, ()),), False)'),
       ('h', 'LifeType((7,), (1,), 5, (LifeRow(9, (5,)),), False)')),
      (('p', 'LifeType((7, 7), (61, 61), 60, (None, None), True)'),
       ('q',
        'LifeType((7, 7, 7), (-1, -1, -1), 0, (LifeRow(None, (0, None, None)), LifeRow(None, (0, None, None))), '
        'False)')))),
    ("""part pa
kind k 1
kind l 9
well wk k 2
well wl l 1
dish e l k 3
procedure p a:l b:k -> b b
put s a
wait 1
if
else
end
end
procedure q a:l -> d d
put s a
take d s
end
procedure r ->
end""",
     ('read',
      'pa',
      (),
      (('p', 'LifeType((9, 1), (0, -1), 3, (None, None), False)'),
       ('q', 'LifeType((9,), (0,), 2, (LifeRow(None, (0,)), LifeRow(None, (0,))), False)'),
       ('r', 'LifeType((), (), 0, (), False)')))),
    ("""part pb
kind k 0
well wk k 2
dish e k k 3
use g k:61 -> never
procedure p a:k b:k ->
while
while
call g b ->
end
get b wk
end
end
procedure q a:k ->
mix d a - a
wait 3
end
procedure r a:k b:k c:k -> b
get c wk
get d wk
call g b ->
end""",
     ('read',
      'pb',
      (('g', 'LifeType((0,), (61,), 60, (), True)'),),
      (('p', 'LifeType((0, 0), (61, 61), 60, (), True)'),
       ('q', 'LifeType((0,), (0,), 4, (), False)'),
       ('r', 'LifeType((0, 0, 0), (61, 61, 61), 60, (None,), True)')))),
    ("""part pc
kind k 12
kind l 3
well wk k 2
well wl l 1
use g l:3 k:40 l:8 -> l:sour 0
use h -> l:16 1
procedure p a:k b:k -> a
put s b
wait 1
end
procedure q a:l -> a a
end
procedure r -> d d
call h -> d
end""",
     ('read',
      'pc',
      (('g', 'LifeType((3, 12, 3), (3, 40, 8), 0, (None,), False)'),
       ('h', 'LifeType((), (), 1, (LifeRow(16, ()),), False)')),
      (('p', 'LifeType((12, 12), (-1, 0), 2, (LifeRow(None, (2, None)),), False)'),
       ('q', 'LifeType((3,), (-1,), 0, (LifeRow(None, (0,)), LifeRow(None, (0,))), False)'),
       ('r', 'LifeType((), (), 2, (LifeRow(15, ()), LifeRow(15, ())), False)')))),
    ("""part pd
kind k 4
kind l 7
well wk k 1
well wl l 1
use g k:43 -> l:60:5 0
use h k:3 -> 60
use i l:8 l:8 -> l:60:1:0 5
procedure p a:l b:l ->
copy b a
get c wk
end
procedure q a:k b:k c:l -> a
get a wk
scale b b 4
get d wl
scale a a -5
end
procedure r a:k b:l -> a c
mix c b + b
put s b
copy d a
take c s
mix a d + a
end""",
     ('read',
      'pd',
      (('g', 'LifeType((4,), (43,), 0, (LifeRow(60, (5,)),), False)'),
       ('h', 'LifeType((4,), (3,), 60, (), False)'),
       ('i', 'LifeType((7, 7), (8, 8), 5, (LifeRow(60, (1, 0)),), False)')),
      (('p', 'LifeType((7, 7), (-1, -1), 2, (), False)'),
       ('q', 'LifeType((4, 4, 7), (-1, 1, -1), 4, (LifeRow(1, (None, None, None)),), False)'),
       ('r', 'LifeType((4, 7), (4, 1), 5, (None, LifeRow(None, (None, 2))), False)')))),
    ("""part pe
kind k 7
kind l 6
kind m 8
well wk k 2
well wl l 9
well wm m 9
dish e l m 3
procedure p a:k -> a
wait 38
if
get c wm
get b wl
else
end
end
procedure q a:l ->
put s a
end""",
     ('read',
      'pe',
      (),
      (('p', 'LifeType((7,), (-1,), 57, (None,), False)'), ('q', 'LifeType((6,), (0,), 1, (), False)')))),
    ("""part pf
kind k 5
well wk k 1
use g -> k:3 5
procedure p a:k b:k -> a a
mix a a - b
end
procedure q a:k b:k -> b
put s a
end
procedure r a:k b:k ->
call g -> c
scale d c 3
end""",
     ('read',
      'pf',
      (('g', 'LifeType((), (), 5, (LifeRow(3, ()),), False)'),),
      (('p', 'LifeType((5, 5), (0, 0), 1, (LifeRow(None, (1, 1)), LifeRow(None, (1, 1))), False)'),
       ('q', 'LifeType((5, 5), (0, -1), 1, (LifeRow(None, (None, 1)),), False)'),
       ('r', 'LifeType((5, 5), (-1, -1), 7, (), False)')))),
    ("""part pg
kind k 2
well wk k 1
dish e k k 2
dish f k k 1
use g k:61 -> k:sour k:sour never
use h k:3 k:-1 -> k:53:61:- 60
procedure p a:k -> a d
copy d a
mix a d + d
end
procedure q ->
wait 3
while
end
wait 2
end""",
     ('read',
      'pg',
      (('g', 'LifeType((2,), (61,), 60, (None, None), True)'),
       ('h', 'LifeType((2, 2), (3, -1), 60, (LifeRow(53, (61, None)),), False)')),
      (('p', 'LifeType((2,), (1,), 2, (None, None), False)'), ('q', 'LifeType((), (), 60, (), False)')))),
    ("""part ph
kind k 12
kind l 0
well wk k 9
well wl l 2
dish e l l 3
use g -> l:sour k:48 60
use h l:0 -> l:55:5 l:60:- 5
use i k:8 k:-1 l:3 -> k:-:-:0:1 0
procedure p a:k -> d a
scale d a 7
get c wk
end""",
     ('read',
      'ph',
      (('g', 'LifeType((), (), 60, (None, LifeRow(48, ())), False)'),
       ('h', 'LifeType((0,), (0,), 5, (LifeRow(55, (5,)), LifeRow(60, (None,))), False)'),
       ('i', 'LifeType((12, 12, 0), (8, -1, 3), 0, (LifeRow(None, (None, 0, 1)),), False)')),
      (('p', 'LifeType((12,), (0,), 10, (LifeRow(None, (10,)), LifeRow(None, (10,))), False)'),))),
    ("""part pi
kind l 8
kind k 0
kind m 0
well wk k 9
well wl l 1
well wm m 1
dish e k l 2
dish f m k 2
use g -> l:19 0
procedure p ->
end
procedure q a:k b:m -> b
end""",
     ('read',
      'pi',
      (('g', 'LifeType((), (), 0, (LifeRow(19, ()),), False)'),),
      (('p', 'LifeType((), (), 0, (), False)'), ('q', 'LifeType((0, 0), (-1, -1), 0, (None,), False)')))),
    ("""part pj
kind k 8
kind l 7
well wk k 1
well wl l 1
use g -> 61
use h -> l:5 1
procedure p a:l b:k c:l ->
if
else
end
end""",
     ('read',
      'pj',
      (('g', 'LifeType((), (), 61, (), False)'), ('h', 'LifeType((), (), 1, (LifeRow(5, ()),), False)')),
      (('p', 'LifeType((7, 8, 7), (-1, -1, -1), 1, (), False)'),))),
    ("""part pk
kind k 10
kind l 12
well wk k 1
well wl l 1
use g k:3 -> k:-:5 61
procedure p a:k b:l c:l -> b
call g a -> d
end""",
     ('read',
      'pk',
      (('g', 'LifeType((10,), (3,), 61, (LifeRow(None, (5,)),), False)'),),
      (('p', 'LifeType((10, 12, 12), (3, -1, -1), 60, (None,), False)'),))),
    ("""part pl
kind k 12
kind l 1
kind m 2
well wk k 1
well wl l 9
well wm m 9
use g l:1 m:8 m:0 -> 0
procedure p a:k -> d
mix d a + a
end
procedure q a:m b:l c:k -> d
call p c -> c
get d wk
call g b a a ->
mix c d - d
call g b a a ->
end
procedure c a:k ->
get d wl
end""",
     ('read',
      'pl',
      (('g', 'LifeType((1, 2, 2), (1, 8, 0), 0, (), False)'),),
      (('p', 'LifeType((12,), (0,), 1, (LifeRow(None, (1,)),), False)'),
       ('q', 'LifeType((2, 1, 12), (61, 61, 61), 60, (None,), True)'),
       ('c', 'LifeType((12,), (-1,), 9, (), False)')))),
    ("""part pm
kind k 7
kind l 2
well wk k 1
well wl l 1
use g -> 0
use h k:0 -> 61
use i k:3 -> k:5:61 0
procedure p a:k b:l -> b b
call h a ->
put s a
end
procedure q a:l b:k -> c
call p b a -> a c
mix d c - a
end
procedure r a:l b:l c:l -> a
while
copy d b
mix c c + a
end
mix a a - c
scale b b -3
scale c a 5
put s b
end""",
     ('read',
      'pm',
      (('g', 'LifeType((), (), 0, (), False)'),
       ('h', 'LifeType((7,), (0,), 61, (), False)'),
       ('i', 'LifeType((7,), (3,), 0, (LifeRow(5, (61,)),), False)')),
      (('p', 'LifeType((7, 2), (61, 61), 60, (None, None), True)'),
       ('q', 'LifeType((2, 7), (61, 61), 60, (None,), True)'),
       ('r', 'LifeType((2, 2, 2), (61, 61, 61), 60, (None,), True)')))),
    ("""part pn
kind k 6
kind l 5
well wk k 2
well wl l 2
use g l:20 -> k:-:1 60
use h -> 61
use h -> 61
procedure p a:k b:k c:k -> d c
while
end
mix b c - c
get d wl
mix a c - a
end""",
     ('InvalidPart', ('use', 2))),
)
