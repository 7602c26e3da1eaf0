"""Programs, and what compiling them returned before it became faster: rows and tables, or an error."""

ANSWERS = (
    ("""kind m 20
kind n 5
well w m 3
well v n 2
dish d m n 4
procedure g x:m -> x
wait 2
end
procedure h x:m y:n -> x
get a w
if
mix b a + x
put s b
wait 3
take c s
else
scale c x 2
wait 2
end
while
get x w
wait 1
end
call g x -> x
dish y d x
wait 2
end""", {},
     ((('g', ('m',), (('wait', 2), ('end', (0,)))),
       ('h', ('m', 'n'),
        (('get', 1, 'w', 0), ('ask', 7), ('mix', 1, '+', 1, 0), ('put', 0, 1), ('wait', 3), ('take', 1, 0),
         ('jump', 9), ('scale', 1, 0, 2), ('wait', 2), ('ask', 13), ('get', 0, 'w', 9), ('wait', 1), ('jump', 9),
         ('call', 'g', (0,), (0,)), ('dish', 1, 'd', 0), ('wait', 2), ('end', (0,))))),
      (((0, (('x', 'c0'),)), (1, (('x', 'c0'),))),
       ((0, (('x', 'c0'),)), (1, (('a', 'c1'), ('x', 'c0'))), (2, (('a', 'c1'), ('x', 'c0'))),
        (3, (('b', 'c1'), ('x', 'c0'))), (4, (('s', 'p0'), ('x', 'c0'))), (5, (('s', 'p0'), ('x', 'c0'))),
        (8, (('x', 'c0'),)), (6, (('x', 'c0'),)), (7, (('x', 'c0'),)), (8, (('x', 'c0'),)), (9, ()),
        (10, (('x', 'c0'),)), (8, (('x', 'c0'),)), (11, (('x', 'c0'),)), (12, (('x', 'c0'),)),
        (13, (('x', 'c0'),)), (14, (('x', 'c0'),)))))),
    ("""kind m 20
kind n 5
well w m 3
well v n 2
dish d m n 4
procedure g x:m -> x
wait 2
end
procedure h x:m y:n -> x
get a w
if
mix b a + x
put s b
wait 3
take c s
else
scale c x 2
wait 2
end
while
get x w
wait 1
end
call g x -> x
dish y d x
wait 2
end""", {'cups': 2, 'cold': 1},
     ((('g', ('m',), (('wait', 2), ('end', (0,)))),
       ('h', ('m', 'n'),
        (('get', 1, 'w', 0), ('ask', 7), ('mix', 1, '+', 1, 0), ('put', 0, 1), ('wait', 3), ('take', 1, 0),
         ('jump', 9), ('scale', 1, 0, 2), ('wait', 2), ('ask', 13), ('get', 0, 'w', 9), ('wait', 1), ('jump', 9),
         ('call', 'g', (0,), (0,)), ('dish', 1, 'd', 0), ('wait', 2), ('end', (0,))))),
      (((0, (('x', 'c0'),)), (1, (('x', 'c0'),))),
       ((0, (('x', 'c0'),)), (1, (('a', 'c1'), ('x', 'c0'))), (2, (('a', 'c1'), ('x', 'c0'))),
        (3, (('b', 'c1'), ('x', 'c0'))), (4, (('s', 'p0'), ('x', 'c0'))), (5, (('s', 'p0'), ('x', 'c0'))),
        (8, (('x', 'c0'),)), (6, (('x', 'c0'),)), (7, (('x', 'c0'),)), (8, (('x', 'c0'),)), (9, ()),
        (10, (('x', 'c0'),)), (8, (('x', 'c0'),)), (11, (('x', 'c0'),)), (12, (('x', 'c0'),)),
        (13, (('x', 'c0'),)), (14, (('x', 'c0'),)))))),
    ("""kind k 14
well wk k 2
procedure p a:k b:k -> d d
if
wait 5
get d wk
else
end
copy d a
mix g a - b
put s a
get g wk
mix b g + b
end
procedure q a:k -> d
if
get g wk
put s g
mix a a - a
else
copy c a
put s c
scale d a 5
if
call p a d -> g d
copy c g
mix a a + g
mix c a - c
scale a c -8
else
end
copy b d
end
while
call p a a -> b a
if
call p a b -> b c
call p b c -> g d
mix g g + b
call p d a -> d c
else
call p b b -> b a
get c wk
end
get c wk
while
copy a a
if
else
mix d a + a
scale c d 1
end
end
end
copy g a
call p g a -> b a
copy d g
mix b d + d
end""", {'cups': 3, 'cold': 3},
     ('NoRoom', 'p', 4)),
    ("""kind k 17
well wk k 9
dish e k k 9
dish f k k 3
procedure p a:k -> a a
wait 1
copy b a
end
procedure q a:k b:k -> b a
while
if
else
dish c e b
get c wk
end
mix a a - a
copy b a
end
dish g e b
if
copy c a
mix b a - g
call p b -> c d
else
mix b b + b
while
dish g f a
dish d e b
scale a g -3
dish a e g
if
copy c d
copy d d
else
mix a b - b
end
end
if
else
call p a -> a b
if
wait 3
get a wk
else
call p a -> c a
get b wk
call p b -> b g
end
call p a -> c b
end
end
call p g -> b a
dish b e b
copy c a
if
wait 5
else
end
end""", {'cups': 3, 'cold': 3},
     ('NoRoom', 'q', 5)),
    ("""kind k 10
well wk k 1
dish e k k 3
dish f k k 3
procedure p a:k -> a a
end
procedure q -> b
get b wk
while
call p b -> b g
end
scale c b -7
if
if
if
get d wk
get c wk
else
dish d e c
mix g c - d
call p b -> b a
end
else
dish b f c
while
end
if
mix g c + b
scale c c 8
else
end
wait 1
end
else
copy d c
mix g c - b
end
dish c e b
if
get g wk
wait 5
dish b f g
else
mix g b + b
while
call p c -> b a
while
dish g e b
wait 1
end
wait 32
end
copy g c
end
end""", {'cups': 4, 'cold': 0},
     ((('p', ('k',), (('end', (0, 0)),)),
       ('q', (),
        (('get', 1, 'wk', 0), ('ask', 4), ('call', 'p', (1,), (1, 0)), ('jump', 1), ('scale', 2, 1, -7),
         ('ask', 23), ('ask', 15), ('ask', 11), ('get', 0, 'wk', 7), ('get', 2, 'wk', 8), ('jump', 25),
         ('dish', 0, 'e', 2), ('mix', 0, '-', 2, 0), ('call', 'p', (1,), (1, 0)), ('jump', 25),
         ('dish', 1, 'f', 2), ('ask', 18), ('jump', 16), ('ask', 21), ('mix', 0, '+', 2, 1), ('scale', 2, 2, 8),
         ('wait', 1), ('jump', 25), ('copy', 0, 2), ('mix', 0, '-', 2, 1), ('dish', 2, 'e', 1), ('ask', 31),
         ('get', 0, 'wk', 22), ('wait', 5), ('dish', 1, 'f', 0), ('jump', 41), ('mix', 0, '+', 1, 1), ('ask', 40),
         ('call', 'p', (2,), (1, 0)), ('ask', 38), ('dish', 0, 'e', 1), ('wait', 1), ('jump', 34), ('wait', 32),
         ('jump', 32), ('copy', 0, 2), ('end', (1,))))),
      (((0, (('a', 'c0'),)),),
       ((0, ()), (1, (('b', 'c1'),)), (2, (('b', 'c1'),)), (1, (('b', 'c1'),)), (3, (('b', 'c1'),)),
        (4, (('b', 'c1'), ('c', 'c2'))), (5, (('b', 'c1'), ('c', 'c2'))), (6, (('b', 'c1'), ('c', 'c2'))),
        (7, (('b', 'c1'),)), (8, (('b', 'c1'),)), (20, (('b', 'c1'),)), (9, (('c', 'c2'), ('b', 'c1'))),
        (10, (('c', 'c2'), ('d', 'c0'), ('b', 'c1'))), (11, (('b', 'c1'),)), (20, (('b', 'c1'),)),
        (12, (('c', 'c2'),)), (13, (('c', 'c2'), ('b', 'c1'))), (13, (('c', 'c2'), ('b', 'c1'))),
        (14, (('c', 'c2'), ('b', 'c1'))), (15, (('c', 'c2'), ('b', 'c1'))), (16, (('c', 'c2'), ('b', 'c1'))),
        (17, (('b', 'c1'),)), (20, (('b', 'c1'),)), (18, (('c', 'c2'), ('b', 'c1'))),
        (19, (('c', 'c2'), ('b', 'c1'))), (20, (('b', 'c1'),)), (21, (('b', 'c1'), ('c', 'c2'))), (22, ()),
        (23, (('g', 'c0'),)), (24, (('g', 'c0'),)), (33, (('b', 'c1'),)), (25, (('b', 'c1'), ('c', 'c2'))),
        (26, (('c', 'c2'), ('b', 'c1'))), (27, (('c', 'c2'),)), (28, (('b', 'c1'), ('c', 'c2'))),
        (29, (('b', 'c1'), ('c', 'c2'))), (30, (('b', 'c1'), ('c', 'c2'))), (28, (('b', 'c1'), ('c', 'c2'))),
        (31, (('c', 'c2'), ('b', 'c1'))), (26, (('c', 'c2'), ('b', 'c1'))), (32, (('c', 'c2'), ('b', 'c1'))),
        (33, (('b', 'c1'),)))))),
    ("""kind k 19
kind l 18
well wk k 1
well wl l 1
procedure p ->
get b wk
get g wl
end
procedure q a:l b:l -> a a
if
get a wl
if
get d wk
put s b
call p ->
take c s
else
end
get g wl
call p ->
else
copy a a
if
call p ->
while
mix g b + a
get d wk
end
call p ->
else
mix c a + a
if
mix a c + c
put s b
take a s
else
call p ->
scale g a 6
end
get c wl
end
if
copy g a
wait 3
get d wk
call p ->
else
end
if
scale b a 5
else
end
get d wk
end
end""", {'cups': 5, 'cold': 2},
     ((('p', (), (('get', 0, 'wk', 0), ('get', 0, 'wl', 1), ('end', ()))),
       ('q', ('l', 'l'),
        (('ask', 10), ('get', 0, 'wl', 1), ('ask', 7), ('get', 2, 'wk', 3), ('put', 0, 1), ('call', 'p', (), ()),
         ('take', 2, 0), ('get', 2, 'wl', 7), ('call', 'p', (), ()), ('jump', 36), ('copy', 0, 0), ('ask', 19),
         ('call', 'p', (), ()), ('ask', 17), ('mix', 2, '+', 1, 0), ('get', 2, 'wk', 14), ('jump', 13),
         ('call', 'p', (), ()), ('jump', 28), ('mix', 2, '+', 0, 0), ('ask', 25), ('mix', 0, '+', 2, 2),
         ('put', 0, 1), ('take', 0, 0), ('jump', 27), ('call', 'p', (), ()), ('scale', 2, 0, 6),
         ('get', 2, 'wl', 23), ('ask', 33), ('copy', 2, 0), ('wait', 3), ('get', 2, 'wk', 27),
         ('call', 'p', (), ()), ('ask', 35), ('scale', 1, 0, 5), ('get', 2, 'wk', 31), ('end', (0, 0))))),
      (((0, ()), (1, ()), (2, ())),
       ((0, (('b', 'c1'), ('a', 'c0'))), (1, (('b', 'c1'),)), (2, (('b', 'c1'), ('a', 'c0'))),
        (3, (('b', 'c1'), ('a', 'c0'))), (4, (('b', 'c1'), ('a', 'c0'))), (5, (('s', 'p0'), ('a', 'c0'))),
        (6, (('s', 'p0'), ('a', 'c0'))), (7, (('a', 'c0'),)), (8, (('a', 'c0'),)), (32, (('a', 'c0'),)),
        (9, (('a', 'c0'), ('b', 'c1'))), (10, (('b', 'c1'), ('a', 'c0'))), (11, (('b', 'c1'), ('a', 'c0'))),
        (12, (('b', 'c1'), ('a', 'c0'))), (13, (('b', 'c1'), ('a', 'c0'))), (14, (('b', 'c1'), ('a', 'c0'))),
        (12, (('b', 'c1'), ('a', 'c0'))), (15, (('a', 'c0'),)), (24, (('a', 'c0'),)),
        (16, (('a', 'c0'), ('b', 'c1'))), (17, (('c', 'c2'), ('b', 'c1'), ('a', 'c0'))),
        (18, (('c', 'c2'), ('b', 'c1'))), (19, (('b', 'c1'),)), (20, (('s', 'p0'),)), (23, (('a', 'c0'),)),
        (21, (('a', 'c0'),)), (22, (('a', 'c0'),)), (23, (('a', 'c0'),)), (24, (('a', 'c0'),)),
        (25, (('a', 'c0'),)), (26, (('a', 'c0'),)), (27, (('a', 'c0'),)), (28, (('a', 'c0'),)),
        (29, (('a', 'c0'),)), (30, (('a', 'c0'),)), (31, (('a', 'c0'),)), (32, (('a', 'c0'),)))))),
    ("""kind k 16
kind l 1
well wk k 1
well wl l 1
dish e k k 1
dish f l k 1
procedure p a:l -> a
dish d f a
while
get a wl
while
scale d d 7
dish d f a
end
end
put s d
while
copy g a
if
mix b a + a
else
end
end
end""", {},
     ((('p', ('l',),
        (('dish', 1, 'f', 0), ('ask', 7), ('get', 0, 'wl', 2), ('ask', 1), ('scale', 1, 1, 7), ('dish', 1, 'f', 0),
         ('jump', 3), ('put', 0, 1), ('ask', 13), ('copy', 1, 0), ('ask', 8), ('mix', 1, '+', 0, 0), ('jump', 8),
         ('end', (0,)))),),
      (((0, (('a', 'c0'),)), (1, (('d', 'c1'), ('a', 'c0'))), (2, (('d', 'c1'),)), (3, (('d', 'c1'), ('a', 'c0'))),
        (4, (('d', 'c1'), ('a', 'c0'))), (5, (('a', 'c0'),)), (3, (('d', 'c1'), ('a', 'c0'))),
        (6, (('d', 'c1'), ('a', 'c0'))), (7, (('a', 'c0'),)), (8, (('a', 'c0'),)), (9, (('a', 'c0'),)),
        (10, (('a', 'c0'),)), (7, (('a', 'c0'),)), (11, (('a', 'c0'),))),))),
    ("""kind k 12
kind l 16
well wk k 1
well wl l 1
dish e k k 2
dish f l l 3
procedure p a:l b:l c:k ->
mix c c + c
get c wk
copy d b
end
procedure q a:k b:k ->
dish c e b
copy c a
copy a c
while
end
end
procedure r a:l b:l -> a b
mix c b + a
if
mix g c + c
else
scale c c 2
get d wk
end
while
scale b a 0
copy a b
end
wait 49
end""", {'cups': 5, 'cold': 2},
     ((('p', ('l', 'l', 'k'), (('mix', 2, '+', 2, 2), ('get', 2, 'wk', 1), ('copy', 0, 1), ('end', ()))),
       ('q', ('k', 'k'),
        (('dish', 1, 'e', 1), ('copy', 1, 0), ('copy', 0, 1), ('ask', 5), ('jump', 3), ('end', ()))),
       ('r', ('l', 'l'),
        (('mix', 2, '+', 1, 0), ('ask', 4), ('mix', 2, '+', 2, 2), ('jump', 6), ('scale', 2, 2, 2),
         ('get', 2, 'wk', 4), ('ask', 10), ('scale', 1, 0, 0), ('copy', 0, 1), ('jump', 6), ('wait', 49),
         ('end', (0, 1))))),
      (((0, (('c', 'c2'), ('b', 'c1'))), (1, (('b', 'c1'),)), (2, (('b', 'c1'),)), (3, ())),
       ((0, (('b', 'c1'), ('a', 'c0'))), (1, (('a', 'c0'),)), (2, (('c', 'c1'),)), (3, ()), (3, ()), (4, ())),
       ((0, (('b', 'c1'), ('a', 'c0'))), (1, (('c', 'c2'), ('a', 'c0'), ('b', 'c1'))),
        (2, (('c', 'c2'), ('a', 'c0'), ('b', 'c1'))), (5, (('a', 'c0'), ('b', 'c1'))),
        (3, (('c', 'c2'), ('a', 'c0'), ('b', 'c1'))), (4, (('a', 'c0'), ('b', 'c1'))),
        (5, (('a', 'c0'), ('b', 'c1'))), (6, (('a', 'c0'),)), (7, (('b', 'c1'),)), (5, (('a', 'c0'), ('b', 'c1'))),
        (8, (('a', 'c0'), ('b', 'c1'))), (9, (('a', 'c0'), ('b', 'c1'))))))),
    ("""kind k 11
kind l 11
well wk k 1
well wl l 2
procedure p ->
get g wl
end
procedure q a:l b:k -> a a
put s b
wait 2
while
mix g a - a
call p ->
end
wait 5
get a wl
end""", {},
     ((('p', (), (('get', 0, 'wl', 0), ('end', ()))),
       ('q', ('l', 'k'),
        (('put', 0, 1), ('wait', 2), ('ask', 6), ('mix', 1, '-', 0, 0), ('call', 'p', (), ()), ('jump', 2),
         ('wait', 5), ('get', 0, 'wl', 6), ('end', (0, 0))))),
      (((0, ()), (1, ())),
       ((0, (('b', 'c1'), ('a', 'c0'))), (1, (('a', 'c0'),)), (2, (('a', 'c0'),)), (3, (('a', 'c0'),)),
        (4, (('a', 'c0'),)), (2, (('a', 'c0'),)), (5, ()), (6, ()), (7, (('a', 'c0'),)))))),
    ("""kind k 5
kind l 4
kind m 12
well wk k 1
well wl l 1
well wm m 9
dish e k k 2
dish f m m 9
procedure p a:l b:l -> b b
put s a
end
procedure q a:k ->
mix a a + a
put s a
end
procedure r a:m -> a g
while
while
dish d f a
if
copy g d
mix b g + g
else
end
while
get c wl
copy a a
mix d d + d
end
get b wm
end
end
scale g a -5
end""", {'cups': 16, 'cold': 16},
     ((('p', ('l', 'l'), (('put', 0, 0), ('end', (1, 1)))),
       ('q', ('k',), (('mix', 0, '+', 0, 0), ('put', 0, 0), ('end', ()))),
       ('r', ('m',),
        (('ask', 13), ('ask', 0), ('dish', 2, 'f', 0), ('ask', 6), ('copy', 1, 2), ('mix', 1, '+', 1, 1),
         ('ask', 11), ('get', 1, 'wl', 7), ('copy', 0, 0), ('mix', 2, '+', 2, 2), ('jump', 6),
         ('get', 1, 'wm', 10), ('jump', 1), ('scale', 1, 0, -5), ('end', (0, 1))))),
      (((0, (('a', 'c0'), ('b', 'c1'))), (1, (('b', 'c1'),))), ((0, (('a', 'c0'),)), (1, (('a', 'c0'),)), (2, ())),
       ((0, (('a', 'c0'),)), (1, (('a', 'c0'),)), (2, (('a', 'c0'),)), (3, (('d', 'c2'), ('a', 'c0'))),
        (4, (('d', 'c2'), ('a', 'c0'))), (5, (('g', 'c1'), ('a', 'c0'), ('d', 'c2'))),
        (6, (('a', 'c0'), ('d', 'c2'))), (7, (('a', 'c0'), ('d', 'c2'))), (8, (('a', 'c0'), ('d', 'c2'))),
        (9, (('d', 'c2'), ('a', 'c0'))), (6, (('a', 'c0'), ('d', 'c2'))), (10, (('a', 'c0'),)),
        (1, (('a', 'c0'),)), (11, (('a', 'c0'),)), (12, (('a', 'c0'), ('g', 'c1'))))))),
    ("""kind k 2
kind l 28
well wk k 2
well wl l 1
dish e k k 1
procedure p a:k -> c c
if
get g wl
copy a a
get d wk
scale c a 2
else
mix c a + a
end
end""", {'cups': 3, 'cold': 3},
     ((('p', ('k',),
        (('ask', 6), ('get', 1, 'wl', 1), ('copy', 0, 0), ('get', 1, 'wk', 3), ('scale', 0, 0, 2), ('jump', 7),
         ('mix', 0, '+', 0, 0), ('end', (0, 0)))),),
      (((0, (('a', 'c0'),)), (1, (('a', 'c0'),)), (2, (('a', 'c0'),)), (3, (('a', 'c0'),)), (4, (('a', 'c0'),)),
        (6, (('c', 'c0'),)), (5, (('a', 'c0'),)), (6, (('c', 'c0'),))),))),
    ("""kind k 11
well wk k 1
procedure p a:k -> a c
mix a a - a
while
mix d a - a
mix b d - a
scale g b -1
end
get c wk
end""", {},
     ((('p', ('k',),
        (('mix', 0, '-', 0, 0), ('ask', 6), ('mix', 1, '-', 0, 0), ('mix', 1, '-', 1, 0), ('scale', 1, 1, -1),
         ('jump', 1), ('get', 1, 'wk', 5), ('end', (0, 1)))),),
      (((0, (('a', 'c0'),)), (1, (('a', 'c0'),)), (2, (('a', 'c0'),)), (3, (('d', 'c1'), ('a', 'c0'))),
        (4, (('b', 'c1'), ('a', 'c0'))), (1, (('a', 'c0'),)), (5, (('a', 'c0'),)),
        (6, (('a', 'c0'), ('c', 'c1')))),))),
    ("""kind k 3
kind l 26
well wk k 9
well wl l 2
procedure p a:l b:k ->
end
procedure q a:k b:k -> a a
end
procedure r a:k b:l -> a
get c wk
mix c c + a
while
scale b b 1
get b wl
if
else
scale d a 5
call p b a ->
end
get d wk
end
if
call q a c -> g c
call q g c -> a c
wait 1
put s b
else
get b wl
put s b
call q a c -> c a
end
end""", {},
     ((('p', ('l', 'k'), (('end', ()),)), ('q', ('k', 'k'), (('end', (0, 0)),)),
       ('r', ('k', 'l'),
        (('get', 2, 'wk', 0), ('mix', 2, '+', 2, 0), ('ask', 11), ('scale', 1, 1, 1), ('get', 1, 'wl', 4),
         ('ask', 7), ('jump', 9), ('scale', 3, 0, 5), ('call', 'p', (1, 0), ()), ('get', 3, 'wk', 8), ('jump', 2),
         ('ask', 17), ('call', 'q', (0, 2), (0, 2)), ('call', 'q', (0, 2), (0, 2)), ('wait', 1), ('put', 0, 1),
         ('jump', 20), ('get', 1, 'wl', 14), ('put', 0, 1), ('call', 'q', (0, 2), (2, 0)), ('end', (0,))))),
      (((0, ()),), ((0, (('a', 'c0'),)),),
       ((0, (('a', 'c0'), ('b', 'c1'))), (1, (('c', 'c2'), ('a', 'c0'), ('b', 'c1'))),
        (2, (('b', 'c1'), ('a', 'c0'), ('c', 'c2'))), (3, (('b', 'c1'), ('a', 'c0'), ('c', 'c2'))),
        (4, (('a', 'c0'), ('c', 'c2'))), (5, (('b', 'c1'), ('a', 'c0'), ('c', 'c2'))),
        (8, (('b', 'c1'), ('a', 'c0'), ('c', 'c2'))), (6, (('a', 'c0'), ('b', 'c1'), ('c', 'c2'))),
        (7, (('b', 'c1'), ('a', 'c0'), ('c', 'c2'))), (8, (('b', 'c1'), ('a', 'c0'), ('c', 'c2'))),
        (2, (('b', 'c1'), ('a', 'c0'), ('c', 'c2'))), (9, (('a', 'c0'), ('c', 'c2'), ('b', 'c1'))),
        (10, (('a', 'c0'), ('c', 'c2'), ('b', 'c1'))), (11, (('g', 'c0'), ('c', 'c2'), ('b', 'c1'))),
        (12, (('b', 'c1'), ('a', 'c0'))), (13, (('b', 'c1'), ('a', 'c0'))), (17, (('a', 'c0'),)),
        (14, (('a', 'c0'), ('c', 'c2'))), (15, (('b', 'c1'), ('a', 'c0'), ('c', 'c2'))),
        (16, (('a', 'c0'), ('c', 'c2'))), (17, (('a', 'c0'),)))))),
    ("""kind k 0
kind l 2
well wk k 2
well wl l 2
dish e k k 1
dish f l l 9
procedure p a:k b:k c:k -> c
mix c b + a
scale a b 3
end
procedure q ->
while
while
get c wk
wait 2
end
get a wk
get d wl
end
end""", {'cups': 3, 'cold': 3},
     ((('p', ('k', 'k', 'k'), (('mix', 2, '+', 1, 0), ('scale', 0, 1, 3), ('end', (2,)))),
       ('q', (),
        (('ask', 8), ('ask', 5), ('get', 0, 'wk', 2), ('wait', 2), ('jump', 1), ('get', 0, 'wk', 4),
         ('get', 0, 'wl', 5), ('jump', 0), ('end', ())))),
      (((0, (('b', 'c1'), ('a', 'c0'))), (1, (('b', 'c1'), ('c', 'c2'))), (2, (('c', 'c2'),))),
       ((0, ()), (1, ()), (2, ()), (3, ()), (1, ()), (4, ()), (5, ()), (0, ()), (6, ()))))),
    ("""kind k 0
kind l 3
kind m 0
well wk k 1
well wl l 9
well wm m 1
dish e m m 2
procedure p a:k b:m -> g b
get g wl
copy d g
while
if
get c wk
else
get b wm
get c wk
mix c a + c
end
end
end""", {},
     ((('p', ('k', 'm'),
        (('get', 3, 'wl', 0), ('copy', 2, 3), ('ask', 10), ('ask', 6), ('get', 2, 'wk', 4), ('jump', 2),
         ('get', 1, 'wm', 5), ('get', 2, 'wk', 6), ('mix', 2, '+', 0, 2), ('jump', 2), ('end', (3, 1)))),),
      (((0, (('a', 'c0'), ('b', 'c1'))), (1, (('g', 'c3'), ('a', 'c0'), ('b', 'c1'))),
        (2, (('a', 'c0'), ('g', 'c3'), ('b', 'c1'))), (3, (('a', 'c0'), ('g', 'c3'), ('b', 'c1'))),
        (4, (('a', 'c0'), ('g', 'c3'), ('b', 'c1'))), (2, (('a', 'c0'), ('g', 'c3'), ('b', 'c1'))),
        (5, (('a', 'c0'), ('g', 'c3'))), (6, (('a', 'c0'), ('g', 'c3'), ('b', 'c1'))),
        (7, (('a', 'c0'), ('c', 'c2'), ('g', 'c3'), ('b', 'c1'))), (2, (('a', 'c0'), ('g', 'c3'), ('b', 'c1'))),
        (8, (('g', 'c3'), ('b', 'c1')))),))),
    ("""kind k 1
kind l 3
well wk k 1
well wl l 1
dish e k k 3
dish f k k 2
procedure p a:k b:k -> c
put s a
wait 5
dish c e b
mix g c + c
put t g
dish b e b
end""", {'cups': 5, 'cold': 2},
     ((('p', ('k', 'k'),
        (('put', 0, 0), ('wait', 5), ('dish', 0, 'e', 1), ('mix', 2, '+', 0, 0), ('put', 1, 2),
         ('dish', 1, 'e', 1), ('end', (0,)))),),
      (((0, (('a', 'c0'), ('b', 'c1'))), (1, (('b', 'c1'),)), (2, (('b', 'c1'),)), (3, (('c', 'c0'), ('b', 'c1'))),
        (4, (('g', 'c2'), ('b', 'c1'), ('c', 'c0'))), (5, (('b', 'c1'), ('c', 'c0'))), (6, (('c', 'c0'),))),))),
    ("""kind k 7
well wk k 9
dish e k k 3
procedure p a:k ->
if
if
while
mix c a + a
end
while
mix b a + a
end
else
end
else
end
end""", {'cups': 5, 'cold': 2},
     ((('p', ('k',),
        (('ask', 8), ('ask', 8), ('ask', 5), ('mix', 1, '+', 0, 0), ('jump', 2), ('ask', 8), ('mix', 1, '+', 0, 0),
         ('jump', 5), ('end', ()))),),
      (((0, (('a', 'c0'),)), (1, (('a', 'c0'),)), (2, (('a', 'c0'),)), (3, (('a', 'c0'),)), (2, (('a', 'c0'),)),
        (4, (('a', 'c0'),)), (5, (('a', 'c0'),)), (4, (('a', 'c0'),)), (6, ())),))),
    ("""kind k 10
kind l 6
kind m 11
well wk k 1
well wl l 1
well wm m 9
dish e l l 1
procedure p a:l -> c g
mix c a - a
if
scale c a 3
put s a
else
put s c
end
take c s
dish b e c
put s b
dish g e c
end""", {'cups': 3, 'cold': 3},
     ((('p', ('l',),
        (('mix', 1, '-', 0, 0), ('ask', 5), ('scale', 1, 0, 3), ('put', 0, 0), ('jump', 6), ('put', 0, 1),
         ('take', 1, 0), ('dish', 0, 'e', 1), ('put', 0, 0), ('dish', 0, 'e', 1), ('end', (1, 0)))),),
      (((0, (('a', 'c0'),)), (1, (('a', 'c0'), ('c', 'c1'))), (2, (('a', 'c0'),)), (3, (('a', 'c0'),)),
        (5, (('s', 'p0'),)), (4, (('c', 'c1'),)), (5, (('s', 'p0'),)), (6, (('c', 'c1'),)),
        (7, (('b', 'c0'), ('c', 'c1'))), (8, (('c', 'c1'),)), (9, (('c', 'c1'), ('g', 'c0')))),))),
    ("""kind k 1
kind l 0
kind m 2
well wk k 1
well wl l 2
well wm m 1
procedure p a:l b:k c:m ->
while
scale a a 9
get a wl
get g wl
end
get g wl
wait 1
get d wk
end
procedure q a:m -> d
scale d a -2
scale d d -4
put s a
end
procedure r a:k b:m c:k ->
get g wm
if
scale g g 1
if
scale d g -5
while
mix c a - c
end
else
scale a a -7
mix a c - a
end
else
end
end""", {},
     ((('p', ('l', 'k', 'm'),
        (('ask', 5), ('scale', 0, 0, 9), ('get', 0, 'wl', 2), ('get', 1, 'wl', 3), ('jump', 0),
         ('get', 1, 'wl', 4), ('wait', 1), ('get', 0, 'wk', 6), ('end', ()))),
       ('q', ('m',), (('scale', 1, 0, -2), ('scale', 1, 1, -4), ('put', 0, 0), ('end', (1,)))),
       ('r', ('k', 'm', 'k'),
        (('get', 1, 'wm', 0), ('ask', 10), ('scale', 1, 1, 1), ('ask', 8), ('scale', 1, 1, -5), ('ask', 10),
         ('mix', 2, '-', 0, 2), ('jump', 5), ('scale', 0, 0, -7), ('mix', 0, '-', 2, 0), ('end', ())))),
      (((0, (('a', 'c0'),)), (1, (('a', 'c0'),)), (2, ()), (3, (('a', 'c0'),)), (0, (('a', 'c0'),)), (4, ()),
        (5, ()), (6, ()), (7, ())),
       ((0, (('a', 'c0'),)), (1, (('d', 'c1'), ('a', 'c0'))), (2, (('a', 'c0'), ('d', 'c1'))),
        (3, (('d', 'c1'),))),
       ((0, (('a', 'c0'), ('c', 'c2'))), (1, (('g', 'c1'), ('a', 'c0'), ('c', 'c2'))),
        (2, (('g', 'c1'), ('a', 'c0'), ('c', 'c2'))), (3, (('g', 'c1'), ('a', 'c0'), ('c', 'c2'))),
        (4, (('g', 'c1'), ('a', 'c0'), ('c', 'c2'))), (5, (('a', 'c0'), ('c', 'c2'))),
        (6, (('a', 'c0'), ('c', 'c2'))), (5, (('a', 'c0'), ('c', 'c2'))), (7, (('a', 'c0'), ('c', 'c2'))),
        (8, (('c', 'c2'), ('a', 'c0'))), (9, ()))))),
    ("""kind k 0
kind l 3
well wk k 1
well wl l 1
dish e l k 3
procedure p a:k -> g g
while
get c wk
get b wk
scale c b -3
end
copy b a
get g wl
get g wl
end
procedure q a:l -> a a
end
procedure r a:l b:l -> a
dish d e b
get c wk
put s a
call q b -> a b
scale c d 0
copy b a
end""", {'cups': 16, 'cold': 16},
     ((('p', ('k',),
        (('ask', 5), ('get', 1, 'wk', 1), ('get', 1, 'wk', 2), ('scale', 1, 1, -3), ('jump', 0), ('copy', 1, 0),
         ('get', 0, 'wl', 5), ('get', 0, 'wl', 6), ('end', (0, 0)))),
       ('q', ('l',), (('end', (0, 0)),)),
       ('r', ('l', 'l'),
        (('dish', 3, 'e', 1), ('get', 2, 'wk', 1), ('put', 0, 0), ('call', 'q', (1,), (0, 1)), ('scale', 2, 3, 0),
         ('copy', 1, 0), ('end', (0,))))),
      (((0, (('a', 'c0'),)), (1, (('a', 'c0'),)), (2, (('a', 'c0'),)), (3, (('b', 'c1'), ('a', 'c0'))),
        (0, (('a', 'c0'),)), (4, (('a', 'c0'),)), (5, ()), (6, ()), (7, (('g', 'c0'),))),
       ((0, (('a', 'c0'),)),),
       ((0, (('b', 'c1'), ('a', 'c0'))), (1, (('a', 'c0'), ('b', 'c1'), ('d', 'c3'))),
        (2, (('a', 'c0'), ('b', 'c1'), ('d', 'c3'))), (3, (('b', 'c1'), ('d', 'c3'))),
        (4, (('d', 'c3'), ('a', 'c0'))), (5, (('a', 'c0'),)), (6, (('a', 'c0'),)))))),
    ("""kind k 3
well wk k 1
dish e k k 3
procedure p a:k b:k -> b
dish d e b
wait 3
get b wk
copy g d
dish b e d
end
procedure q a:k b:k c:k -> c
put s b
mix c c - c
put t c
mix c a - a
if
wait 18
else
call p a a -> c
scale c a -2
end
end
procedure r a:k ->
if
call p a a -> a
put s a
get g wk
scale g g -2
else
get a wk
dish d e a
wait 2
dish b e d
put s b
end
end""", {},
     ((('p', ('k', 'k'),
        (('dish', 0, 'e', 1), ('wait', 3), ('get', 1, 'wk', 2), ('copy', 1, 0), ('dish', 1, 'e', 0),
         ('end', (1,)))),
       ('q', ('k', 'k', 'k'),
        (('put', 0, 1), ('mix', 2, '-', 2, 2), ('put', 1, 2), ('mix', 2, '-', 0, 0), ('ask', 7), ('wait', 18),
         ('jump', 9), ('call', 'p', (0, 0), (2,)), ('scale', 2, 0, -2), ('end', (2,)))),
       ('r', ('k',),
        (('ask', 6), ('call', 'p', (0, 0), (0,)), ('put', 0, 0), ('get', 0, 'wk', 3), ('scale', 0, 0, -2),
         ('jump', 11), ('get', 0, 'wk', 5), ('dish', 0, 'e', 0), ('wait', 2), ('dish', 0, 'e', 0), ('put', 0, 0),
         ('end', ())))),
      (((0, (('b', 'c1'),)), (1, (('d', 'c0'),)), (2, (('d', 'c0'),)), (3, (('d', 'c0'),)), (4, (('d', 'c0'),)),
        (5, (('b', 'c1'),))),
       ((0, (('b', 'c1'), ('c', 'c2'), ('a', 'c0'))), (1, (('c', 'c2'), ('a', 'c0'))),
        (2, (('c', 'c2'), ('a', 'c0'))), (3, (('a', 'c0'),)), (4, (('c', 'c2'), ('a', 'c0'))), (5, (('c', 'c2'),)),
        (8, (('c', 'c2'),)), (6, (('a', 'c0'),)), (7, (('a', 'c0'),)), (8, (('c', 'c2'),))),
       ((0, (('a', 'c0'),)), (1, (('a', 'c0'),)), (2, (('a', 'c0'),)), (3, ()), (4, (('g', 'c0'),)), (10, ()),
        (5, ()), (6, (('a', 'c0'),)), (7, (('d', 'c0'),)), (8, (('d', 'c0'),)), (9, (('b', 'c0'),)), (10, ()))))),
    ("""kind k 3
kind l 1
well wk k 1
well wl l 1
dish e k k 1
procedure p a:k b:l -> c d
put s b
dish d e a
take c s
end
procedure q a:k -> c
get c wk
end
procedure r a:l b:k -> b b
scale c a -1
if
copy a a
call p b a -> g d
else
call p b c -> c d
scale g c 5
end
end""", {},
     ((('p', ('k', 'l'), (('put', 0, 1), ('dish', 1, 'e', 0), ('take', 0, 0), ('end', (0, 1)))),
       ('q', ('k',), (('get', 0, 'wk', 0), ('end', (0,)))),
       ('r', ('l', 'k'),
        (('scale', 2, 0, -1), ('ask', 5), ('copy', 0, 0), ('call', 'p', (1, 0), (2, 0)), ('jump', 7),
         ('call', 'p', (1, 2), (2, 0)), ('scale', 2, 2, 5), ('end', (1, 1))))),
      (((0, (('b', 'c1'), ('a', 'c0'))), (1, (('a', 'c0'), ('s', 'p0'))), (2, (('s', 'p0'), ('d', 'c1'))),
        (3, (('c', 'c0'), ('d', 'c1')))),
       ((0, ()), (1, (('c', 'c0'),))),
       ((0, (('a', 'c0'), ('b', 'c1'))), (1, (('a', 'c0'), ('b', 'c1'), ('c', 'c2'))),
        (2, (('a', 'c0'), ('b', 'c1'))), (3, (('b', 'c1'), ('a', 'c0'))), (6, (('b', 'c1'),)),
        (4, (('b', 'c1'), ('c', 'c2'))), (5, (('c', 'c2'), ('b', 'c1'))), (6, (('b', 'c1'),)))))),
    ("""kind k 12
well wk k 1
dish e k k 2
procedure p a:k b:k c:k -> d d
mix d a + c
copy a a
end
procedure q a:k b:k -> a d
copy g a
while
if
mix b a + g
mix d a - b
copy a d
else
end
end
put s b
dish d e a
mix a g + d
scale d a 9
end
procedure r a:k b:k ->
mix g b + b
get a wk
put s a
call q g g -> a d
dish b e b
take c s
end""", {'cups': 3, 'cold': 3},
     ('NoRoom', 'q', 4)),
    ("""kind k 25
kind l 1
well wk k 1
well wl l 2
dish e k k 2
procedure p a:k b:k c:l ->
scale a b -1
get a wk
put s a
mix d b + b
take d s
dish d e d
end
procedure q a:k b:l -> g
dish g e a
get g wk
get a wk
scale b b 2
put s b
get d wl
end
procedure r a:k ->
get b wl
while
mix g b - b
if
while
end
else
mix d a + a
end
scale c a 0
while
end
end
get a wk
copy g b
end""", {'cups': 16, 'cold': 16},
     ((('p', ('k', 'k', 'l'),
        (('scale', 0, 1, -1), ('get', 0, 'wk', 1), ('put', 0, 0), ('mix', 0, '+', 1, 1), ('take', 0, 0),
         ('dish', 0, 'e', 0), ('end', ()))),
       ('q', ('k', 'l'),
        (('dish', 2, 'e', 0), ('get', 2, 'wk', 1), ('get', 0, 'wk', 2), ('scale', 1, 1, 2), ('put', 0, 1),
         ('get', 0, 'wl', 5), ('end', (2,)))),
       ('r', ('k',),
        (('get', 1, 'wl', 0), ('ask', 10), ('mix', 2, '-', 1, 1), ('ask', 6), ('ask', 7), ('jump', 4),
         ('mix', 2, '+', 0, 0), ('scale', 2, 0, 0), ('ask', 1), ('jump', 8), ('get', 0, 'wk', 8), ('copy', 2, 1),
         ('end', ())))),
      (((0, (('b', 'c1'),)), (1, (('b', 'c1'),)), (2, (('a', 'c0'), ('b', 'c1'))), (3, (('b', 'c1'), ('s', 'p0'))),
        (4, (('s', 'p0'),)), (5, (('d', 'c0'),)), (6, ())),
       ((0, (('a', 'c0'), ('b', 'c1'))), (1, (('b', 'c1'),)), (2, (('b', 'c1'), ('g', 'c2'))),
        (3, (('b', 'c1'), ('g', 'c2'))), (4, (('b', 'c1'), ('g', 'c2'))), (5, (('g', 'c2'),)),
        (6, (('g', 'c2'),))),
       ((0, (('a', 'c0'),)), (1, (('b', 'c1'), ('a', 'c0'))), (2, (('b', 'c1'), ('a', 'c0'))),
        (3, (('a', 'c0'), ('b', 'c1'))), (4, (('a', 'c0'), ('b', 'c1'))), (4, (('a', 'c0'), ('b', 'c1'))),
        (5, (('a', 'c0'), ('b', 'c1'))), (6, (('a', 'c0'), ('b', 'c1'))), (7, (('b', 'c1'), ('a', 'c0'))),
        (7, (('b', 'c1'), ('a', 'c0'))), (8, (('b', 'c1'),)), (9, (('b', 'c1'),)), (10, ()))))),
)
