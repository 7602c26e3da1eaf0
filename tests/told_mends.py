"""Programs with starts, and the mends that were told of them before this became faster."""

ANSWERS = (
    ("""kind m 20
kind n 5
well w m 3
well v n 2
dish d m n 4
procedure g x:m -> x
wait 2
end
procedure h x:m y:n -> x
get a w
if
mix b a + x
put s b
wait 3
take c s
else
scale c x 2
wait 2
end
while
get x w
wait 1
end
call g x -> x
dish y d x
wait 2
end""", "h", (18, 5),
     [(0, 'a', 'w'), (0, 'b', 'w'), (0, 'c', 'w'), (0, 'x', 'w'), (0, 'y', 'v'), (1, 'a', 'w'), (1, 'b', 'w'),
      (1, 'c', 'w'), (1, 'x', 'w'), (1, 'y', 'v'), (2, 'a', 'w'), (2, 'b', 'w'), (2, 'c', 'w'), (2, 'x', 'w'),
      (2, 'y', 'v'), (3, 'a', 'w'), (3, 'b', 'w'), (3, 'c', 'w'), (3, 'x', 'w'), (3, 'y', 'v'), (4, 'a', 'w'),
      (4, 'b', 'w'), (4, 'c', 'w'), (4, 'x', 'w'), (4, 'y', 'v'), (5, 'a', 'w'), (5, 'b', 'w'), (5, 'c', 'w'),
      (5, 'x', 'w'), (5, 'y', 'v'), (6, 'a', 'w'), (6, 'b', 'w'), (6, 'c', 'w'), (6, 'x', 'w'), (6, 'y', 'v'),
      (7, 'a', 'w'), (7, 'b', 'w'), (7, 'c', 'w'), (7, 'x', 'w'), (7, 'y', 'v'), (8, 'a', 'w'), (8, 'b', 'w'),
      (8, 'c', 'w'), (8, 'x', 'w'), (8, 'y', 'v'), (9, 'a', 'w'), (9, 'b', 'w'), (9, 'c', 'w'), (9, 'x', 'w'),
      (9, 'y', 'v'), (10, 'a', 'w'), (10, 'b', 'w'), (10, 'c', 'w'), (10, 'x', 'w'), (10, 'y', 'v'),
      (11, 'a', 'w'), (11, 'b', 'w'), (11, 'c', 'w'), (11, 'x', 'w'), (11, 'y', 'v'), (12, 'a', 'w'),
      (12, 'b', 'w'), (12, 'c', 'w'), (12, 'x', 'w'), (12, 'y', 'v'), (13, 'a', 'w'), (13, 'b', 'w'),
      (13, 'c', 'w'), (13, 'x', 'w'), (13, 'y', 'v'), (14, 'a', 'w'), (14, 'b', 'w'), (14, 'c', 'w'),
      (14, 'x', 'w'), (14, 'y', 'v')]),
    ("""kind k 0
kind l 0
kind m 3
well wk k 1
well wl l 1
well wm m 1
procedure p a:l b:k c:m ->
mix a a + a
if
mix d c + c
else
scale g c 9
end
end
procedure q -> g
get c wm
put s c
while
end
take g s
while
wait 34
wait 3
end
end""", "q", (),
     [(0, 'c', 'wm'), (0, 'g', 'wm'), (1, 'c', 'wm'), (1, 'g', 'wm'), (2, 'c', 'wm'), (2, 'g', 'wm'),
      (3, 'c', 'wm'), (3, 'g', 'wm'), (4, 'c', 'wm'), (4, 'g', 'wm'), (5, 'c', 'wm'), (5, 'g', 'wm'),
      (6, 'c', 'wm'), (6, 'g', 'wm'), (7, 'c', 'wm'), (7, 'g', 'wm')]),
    ("""kind k 4
kind l 8
well wk k 9
well wl l 9
dish e l l 1
procedure p a:k -> g
get g wk
get b wl
end
procedure q a:l b:l c:l -> c b
if
mix c c + b
dish c e b
else
end
dish g e b
if
wait 5
mix c g - a
get d wk
else
scale g g -1
end
end""", "q", (8, 8, 0),
     []),
    ("""kind k 9
kind l 6
kind m 3
well wk k 1
well wl l 2
well wm m 1
dish e l l 2
procedure p a:k ->
if
get g wm
else
end
scale c a -1
end
procedure q a:m ->
wait 5
mix b a + a
while
put s b
take b s
end
wait 5
mix b b + a
get d wl
end""", "q", (0,),
     []),
    ("""kind k 4
kind l 2
well wk k 9
well wl l 9
dish e l k 1
dish f k l 9
procedure p a:k -> c a
dish c f a
dish a e c
if
if
scale g a 8
copy a g
wait 1
get c wl
else
dish d f a
while
scale b a 6
end
end
else
end
end
procedure q a:k b:k -> b b
scale g a 9
end
procedure r a:l b:l c:l ->
get b wl
put s b
copy a a
get g wk
put t a
mix g g + g
end""", "r", (-1, 2, 2),
     []),
    ("""kind k 21
kind l 25
well wk k 2
well wl l 2
procedure p a:l -> d
while
copy d a
get c wk
mix d a - d
end
get g wl
get a wl
put s a
scale d g 1
mix d d - g
end""", "p", (13,),
     [(1, 'a', 'wl'), (2, 'a', 'wl'), (3, 'a', 'wl')]),
    ("""kind k 12
kind l 8
kind m 0
well wk k 1
well wl l 9
well wm m 9
dish e k m 9
procedure p ->
if
while
end
while
while
wait 1
wait 2
end
end
else
end
end
procedure q a:l b:k -> b
mix c a + a
put s b
mix c c + a
if
call p ->
get d wm
else
end
take b s
dish g e b
end""", "q", (6, 12),
     [(0, 'a', 'wl'), (0, 'b', 'wk'), (1, 'b', 'wk'), (2, 'b', 'wk'), (3, 'a', 'wl'), (3, 'b', 'wk'),
      (3, 'c', 'wl'), (3, 'd', 'wm'), (3, 'g', 'wm'), (4, 'a', 'wl'), (4, 'b', 'wk'), (4, 'c', 'wl'),
      (4, 'd', 'wm'), (4, 'g', 'wm'), (5, 'a', 'wl'), (5, 'b', 'wk'), (5, 'c', 'wl'), (5, 'd', 'wm'),
      (5, 'g', 'wm'), (6, 'a', 'wl'), (6, 'b', 'wk'), (6, 'c', 'wl'), (6, 'd', 'wm'), (6, 'g', 'wm'),
      (7, 'a', 'wl'), (7, 'b', 'wk'), (7, 'c', 'wl'), (7, 'd', 'wm'), (7, 'g', 'wm'), (8, 'a', 'wl'),
      (8, 'b', 'wk'), (8, 'c', 'wl'), (8, 'd', 'wm'), (8, 'g', 'wm')]),
    ("""kind k 1
kind l 3
kind m 6
well wk k 9
well wl l 9
well wm m 1
procedure p a:l -> d
if
if
else
end
else
mix g a - a
end
wait 2
put s a
take d s
mix a d + d
end""", "p", (2,),
     [(3, 'a', 'wl'), (4, 'a', 'wl')]),
    ("""kind k 3
well wk k 1
procedure p a:k b:k c:k ->
mix b a - c
end
procedure q a:k b:k -> d a
get d wk
mix b a + d
end
procedure r a:k ->
mix d a + a
if
call p d d a ->
else
get a wk
mix d d - d
if
else
end
call q a d -> d b
end
mix g a + a
put s a
end""", "r", (3,),
     [(7, 'a', 'wk')]),
    ("""kind k 19
well wk k 1
dish e k k 9
procedure p a:k b:k -> d d
put s a
take d s
mix c b + b
dish b e d
while
wait 1
if
get c wk
dish c e c
else
end
mix b b + b
end
end""", "p", (7, 19),
     [(5, 'b', 'wk'), (6, 'b', 'wk'), (9, 'b', 'wk')]),
    ("""kind k 5
kind l 0
well wk k 9
well wl l 2
dish e k k 9
dish f l l 1
procedure p a:l b:l -> g a
scale g b 1
if
dish c f g
if
mix b b - b
copy g a
if
else
get d wk
end
else
end
else
end
end
procedure q a:k -> a a
get g wl
put s g
dish d e a
if
scale a d 5
mix c a + d
get a wk
else
end
end""", "q", (1,),
     [(0, 'a', 'wk'), (2, 'a', 'wk')]),
    ("""kind k 2
kind l 1
well wk k 1
well wl l 1
dish e k l 1
dish f l l 2
procedure p a:l b:l -> a a
end
procedure q ->
wait 1
end
procedure r -> c c
get c wl
if
mix g c + c
wait 37
if
copy g c
mix b g + g
else
end
else
end
end""", "r", (),
     [(5, 'c', 'wl'), (6, 'g', 'wl')]),
    ("""kind k 18
kind l 3
kind m 26
well wk k 2
well wl l 1
well wm m 1
dish e m m 9
dish f l l 1
procedure p a:k -> a
get c wk
get g wl
wait 3
put s c
take c s
end
procedure q -> c
wait 5
get a wl
get c wk
mix d c + c
if
get b wl
get c wk
else
end
end""", "q", (),
     [(0, 'a', 'wl'), (0, 'b', 'wl'), (0, 'c', 'wk'), (0, 'd', 'wk'), (1, 'a', 'wl'), (1, 'b', 'wl'),
      (1, 'c', 'wk'), (1, 'd', 'wk'), (2, 'a', 'wl'), (2, 'b', 'wl'), (2, 'c', 'wk'), (2, 'd', 'wk'),
      (3, 'a', 'wl'), (3, 'b', 'wl'), (3, 'c', 'wk'), (3, 'd', 'wk'), (4, 'a', 'wl'), (4, 'b', 'wl'),
      (4, 'c', 'wk'), (4, 'd', 'wk'), (5, 'a', 'wl'), (5, 'b', 'wl'), (5, 'c', 'wk'), (5, 'd', 'wk'),
      (6, 'a', 'wl'), (6, 'b', 'wl'), (6, 'c', 'wk'), (6, 'd', 'wk'), (7, 'a', 'wl'), (7, 'b', 'wl'),
      (7, 'c', 'wk'), (7, 'd', 'wk')]),
    ("""kind k 10
well wk k 2
procedure p a:k b:k ->
copy a a
mix g b - a
end
procedure q a:k b:k -> g
wait 2
while
get g wk
mix a g - g
mix a g + a
end
mix g a - a
end""", "q", (10, 9),
     [(0, 'a', 'wk'), (0, 'b', 'wk'), (0, 'g', 'wk'), (1, 'a', 'wk'), (1, 'b', 'wk'), (1, 'g', 'wk'),
      (2, 'a', 'wk'), (2, 'b', 'wk'), (2, 'g', 'wk'), (3, 'a', 'wk'), (3, 'b', 'wk'), (3, 'g', 'wk'),
      (4, 'a', 'wk'), (4, 'b', 'wk'), (4, 'g', 'wk'), (5, 'a', 'wk'), (5, 'b', 'wk'), (5, 'g', 'wk'),
      (6, 'a', 'wk'), (6, 'b', 'wk'), (6, 'g', 'wk')]),
    ("""kind k 5
well wk k 2
procedure p -> d d
get d wk
end
procedure q -> b g
wait 38
call p -> g d
mix c d + g
if
call p -> b c
else
mix b g - c
get g wk
end
end""", "q", (),
     [(0, 'b', 'wk'), (0, 'c', 'wk'), (0, 'd', 'wk'), (0, 'g', 'wk'), (1, 'b', 'wk'), (1, 'c', 'wk'),
      (1, 'd', 'wk'), (1, 'g', 'wk'), (2, 'b', 'wk'), (2, 'c', 'wk'), (2, 'd', 'wk'), (2, 'g', 'wk'),
      (3, 'b', 'wk'), (3, 'c', 'wk'), (3, 'd', 'wk'), (3, 'g', 'wk'), (4, 'b', 'wk'), (4, 'c', 'wk'),
      (4, 'd', 'wk'), (4, 'g', 'wk'), (5, 'b', 'wk'), (5, 'c', 'wk'), (5, 'd', 'wk'), (5, 'g', 'wk'),
      (6, 'b', 'wk'), (6, 'c', 'wk'), (6, 'd', 'wk'), (6, 'g', 'wk'), (7, 'b', 'wk'), (7, 'c', 'wk'),
      (7, 'd', 'wk'), (7, 'g', 'wk')]),
    ("""kind k 6
kind l 23
well wk k 9
well wl l 9
procedure p ->
end
procedure q a:l b:k -> b
call p ->
end
procedure r ->
get d wk
if
scale b d -8
call p ->
else
call p ->
mix g d - d
end
put s d
end""", "r", (),
     [(0, 'b', 'wk'), (0, 'd', 'wk'), (0, 'g', 'wk'), (1, 'd', 'wk'), (2, 'd', 'wk'), (3, 'd', 'wk'),
      (4, 'd', 'wk'), (5, 'd', 'wk'), (6, 'd', 'wk'), (7, 'b', 'wk'), (7, 'd', 'wk'), (7, 'g', 'wk')]),
    ("""kind k 12
kind l 2
well wk k 1
well wl l 1
procedure p a:k b:l ->
get g wk
scale d g 3
end
procedure q a:l -> g
if
mix a a + a
else
scale b a 4
mix b b + a
end
copy g a
get c wl
end""", "q", (2,),
     [(0, 'a', 'wl'), (1, 'a', 'wl'), (1, 'b', 'wl'), (1, 'c', 'wl'), (1, 'g', 'wl'), (2, 'a', 'wl'),
      (4, 'a', 'wl'), (4, 'b', 'wl'), (4, 'c', 'wl'), (4, 'g', 'wl'), (5, 'a', 'wl'), (5, 'b', 'wl'),
      (5, 'c', 'wl'), (5, 'g', 'wl'), (6, 'a', 'wl'), (6, 'b', 'wl'), (6, 'c', 'wl'), (6, 'g', 'wl')]),
    ("""kind k 26
kind l 20
well wk k 1
well wl l 9
procedure p a:k b:k c:l ->
if
else
if
else
scale c c -1
scale a a -5
copy d a
end
end
mix a a - b
put s a
get c wl
end""", "p", (22, 10, 5),
     [(0, 'a', 'wk'), (0, 'b', 'wk'), (0, 'd', 'wk'), (1, 'a', 'wk'), (1, 'b', 'wk'), (1, 'd', 'wk'),
      (2, 'a', 'wk'), (2, 'b', 'wk'), (2, 'd', 'wk'), (3, 'a', 'wk'), (3, 'b', 'wk'), (3, 'd', 'wk'),
      (4, 'a', 'wk'), (4, 'b', 'wk'), (4, 'd', 'wk'), (5, 'a', 'wk'), (5, 'b', 'wk'), (5, 'd', 'wk'),
      (6, 'a', 'wk'), (6, 'b', 'wk'), (6, 'd', 'wk'), (7, 'a', 'wk'), (7, 'b', 'wk'), (7, 'c', 'wl'),
      (7, 'd', 'wk'), (8, 'a', 'wk'), (8, 'b', 'wk'), (8, 'c', 'wl'), (8, 'd', 'wk')]),
    ("""kind k 10
well wk k 9
dish e k k 9
procedure p a:k -> g g
scale c a 2
if
else
scale d a -7
get c wk
end
mix b a + a
mix g c - b
end""", "p", (10,),
     [(3, 'a', 'wk')]),
    ("""kind k 2
kind l 0
well wk k 9
well wl l 1
procedure p a:k b:k c:k -> d b
scale d b -1
if
mix a a - d
else
while
wait 1
end
end
if
scale d b 3
else
end
end""", "p", (2, 2, 2),
     [(5, 'b', 'wk'), (6, 'b', 'wk')]),
    ("""kind k 3
kind l 3
well wk k 1
well wl l 9
dish e l k 2
procedure p a:k b:k -> g b
get g wl
wait 2
end
procedure q a:k -> c c
call p a a -> c a
end
procedure r ->
wait 5
wait 5
if
else
get b wl
get g wk
end
if
else
end
while
if
while
get b wl
mix b b + b
wait 5
end
if
else
end
else
end
end
end""", "r", (),
     [(0, 'b', 'wl'), (0, 'g', 'wk'), (1, 'b', 'wl'), (1, 'g', 'wk'), (2, 'b', 'wl'), (2, 'g', 'wk'),
      (3, 'b', 'wl'), (3, 'g', 'wk'), (4, 'b', 'wl'), (4, 'g', 'wk'), (5, 'b', 'wl'), (5, 'g', 'wk'),
      (6, 'b', 'wl'), (6, 'g', 'wk'), (7, 'b', 'wl'), (7, 'g', 'wk'), (8, 'b', 'wl'), (8, 'g', 'wk'),
      (9, 'b', 'wl'), (9, 'g', 'wk'), (10, 'b', 'wl'), (10, 'g', 'wk'), (11, 'b', 'wl'), (11, 'g', 'wk'),
      (12, 'b', 'wl'), (12, 'g', 'wk'), (13, 'b', 'wl'), (13, 'g', 'wk')]),
    ("""kind k 4
kind l 4
kind m 6
well wk k 2
well wl l 1
well wm m 1
dish e m k 9
dish f l l 9
procedure p a:m b:l c:l -> a
while
mix g c + b
dish d f g
end
end
procedure q a:l b:m -> a a
mix c a - a
wait 5
end
procedure r -> b g
get g wl
if
scale a g -1
if
if
get g wl
copy g a
else
end
get c wk
else
wait 13
end
else
if
mix b g - g
else
end
mix g g + g
end
scale b g -2
mix g b + b
end""", "r", (),
     [(12, 'g', 'wl')]),
)
