/- Vfm, Vpd -/
import Derived.Test.YtocoimjhglackaaGreatK03
set_option maxHeartbeats 8000000
set_option maxRecDepth 100000
namespace Go.Proofs.YtocoimjhglackaaGreat
section
open Go.RowKit
def zA9 : Fm:=.cat .num .num
def zB4 : Fm:=.cat (.lst .num) (.lst .num)
def zA7 : Fm:=.cat .num (.cat .num (.cat .num (.cat .num (.cat .num (.cat .num (.cat .num (.cat zA9 (.cat .tru .num))))))))
def zA4 : Fm:=.cat .num .num
def zA6 : Fm:=.cat .num zA9
def zC4 : Fm:=.cat .num (.cat .num (.cat .num (.cat .num (.cat (.lst zA6) (.cat .num .tru)))))
def zB3 : Fm:=.cat .num (.cat zA9 (.cat .tru (.cat .tru (.cat .num (.cat .num .num)))))
def zC5 : Fm:=.cat .num (.cat .num (.cat .num (.cat (.lst .num) (.cat (.lst zA7) .tru))))
def yH0 : Fm:=.cat .num (.cat .num (.lst zA7))
def zD4 : Fm:=.cat .num (.cat .num (.cat .num (.cat zC4 (.cat zB3 (.cat (.lst zA4) (.cat zC5 zB4))))))
def zA8 : Fm:=.cat .num (.cat .num zD4)
def xS4 : Fm:=.cat .num (.cat .num (.cat .num .num))
def yV6 : Fm:=.cat .num (.cat .num (.cat .num .num))
def xS3 : Fm:=.cat .num (.cat .num yH0)
def xZ9 : Fm:=.cat .num (.cat .num (.cat (.lst zC4) (.cat (.lst zC4) (.cat (.lst zB3) (.cat (.lst zA7) (.cat (.lst xS4) (.cat (.lst yV6) (.lst xS3))))))))
def zA2 : Fm:=.cat .num (.cat .num (.cat zB4 .byt))
def kJ5 : Fm:=.cat .num (.cat .num (.cat .num (.cat .num (.cat .num (.cat .num (.cat .num (.cat .tru (.cat .num (.cat .num (.cat .num (.cat .num (.cat (.lst zA8) (.cat zB4 (.cat .byt (.cat zD4 yH0)))))))))))))))
theorem zF3 {α:Type} (l:List α) (h:l.length = 2) : ∃ y0 y1,l = [y0,y1]:=by
 match l,h with
 | [y0,y1],_=>exact ⟨_,_,rfl⟩
theorem xE2 {α:Type} (l:List α) (h:l.length = 3) : ∃ y0 y1 y2,l = [y0,y1,y2]:=by
 match l,h with
 | [y0,y1,y2],_=>exact ⟨_,_,_,rfl⟩
theorem yJ6 {α:Type} (l:List α) (h:l.length = 6) : ∃ y0 y1 y2 y3 y4 y5,l = [y0,y1,y2,y3,y4,y5]:=by
 match l,h with
 | [y0,y1,y2,y3,y4,y5],_=>exact ⟨_,_,_,_,_,_,rfl⟩
theorem yJ5 {α:Type} (l:List α) (h:l.length = 7) : ∃ y0 y1 y2 y3 y4 y5 y6,l = [y0,y1,y2,y3,y4,y5,y6]:=by
 match l,h with
 | [y0,y1,y2,y3,y4,y5,y6],_=>exact ⟨_,_,_,_,_,_,_,rfl⟩
theorem yJ4 {α:Type} (l:List α) (h:l.length = 8) : ∃ y0 y1 y2 y3 y4 y5 y6 y7,l = [y0,y1,y2,y3,y4,y5,y6,y7]:=by
 match l,h with
 | [y0,y1,y2,y3,y4,y5,y6,y7],_=>exact ⟨_,_,_,_,_,_,_,_,rfl⟩
theorem yC2 {α:Type} (l:List α) (h:l.length = 27) : ∃ y0 y1 y2 y3 y4 y5 y6 y7 y8 y9 y10 y11 y12 y13 y14 y15 y16 y17 y18 y19 y20 y21 y22 y23 y24 y25 y26,l = [y0,y1,y2,y3,y4,y5,y6,y7,y8,y9,y10,y11,y12,y13,y14,y15,y16,y17,y18,y19,y20,y21,y22,y23,y24,y25,y26]:=by
 match l,h with
 | [y0,y1,y2,y3,y4,y5,y6,y7,y8,y9,y10,y11,y12,y13,y14,y15,y16,y17,y18,y19,y20,y21,y22,y23,y24,y25,y26],_=>exact ⟨_,_,_,_,_,_,_,_,_,_,_,_,_,_,_,_,_,_,_,_,_,_,_,_,_,_,_,rfl⟩
theorem yT0 {w:World} {S:Nat->Prop} {cs:List Value} {v:Vl zA9} (h:Rep w S zA9 cs v) :
    ∃ (x0:Int) (x1:Int),cs = [.int .i64 x0,.int .i64 x1]/\v = (x0,x1):=by
 obtain ⟨u0,u1⟩:=v
 obtain ⟨r0,q0,rfl,f0,h0⟩:=h
 have f1:=h0
 obtain rfl : r0 = _:=f0
 obtain rfl : q0 = _:=f1
 exact ⟨u0,u1,rfl,rfl⟩
theorem xQ1 {w:World} {S:Nat->Prop} (x0:Int) (x1:Int)  : Rep w S zA9 [.int .i64 x0,.int .i64 x1] (x0,x1):=⟨[.int .i64 x0],[.int .i64 x1],rfl,rfl,rfl⟩
theorem yJ1 {w:World} {S:Nat->Prop} {cs:List Value} {v:Vl zB4} (h:Rep w S zB4 cs v) :
    ∃ (a0:Option Addr) (c0:Nat) (v0:List (Vl .num)) (a1:Option Addr) (c1:Nat) (v1:List (Vl .num)),cs = [.slice a0 v0.length c0,.slice a1 v1.length c1]/\v = (v0,v1)/\RepL w S .num a0 v0/\RepL w S .num a1 v1:=by
 obtain ⟨u0,u1⟩:=v
 obtain ⟨r0,q0,rfl,f0,h0⟩:=h
 have f1:=h0
 obtain ⟨a0,c0,rfl,k0,m0⟩:=f0
 obtain ⟨a1,c1,rfl,k1,m1⟩:=f1
 exact ⟨a0,c0,u0,a1,c1,u1,rfl,rfl,⟨k0,m0⟩,⟨k1,m1⟩⟩
theorem xD9 {w:World} {S:Nat->Prop} (a0:Option Addr) (c0:Nat) (v0:List (Vl .num)) (a1:Option Addr) (c1:Nat) (v1:List (Vl .num)) (h0:RepL w S .num a0 v0) (h1:RepL w S .num a1 v1) : Rep w S zB4 [.slice a0 v0.length c0,.slice a1 v1.length c1] (v0,v1):=⟨[.slice a0 v0.length c0],[.slice a1 v1.length c1],rfl,⟨_,_,rfl,h0.1,h0.2⟩,⟨_,_,rfl,h1.1,h1.2⟩⟩
theorem yC0 {w:World} {S:Nat->Prop} {cs:List Value} {v:Vl zA7} (h:Rep w S zA7 cs v) :
    ∃ (x0:Int) (x1:Int) (x2:Int) (x3:Int) (x4:Int) (x5:Int) (x6:Int) (y7_0 y7_1:Value) (v7:Vl zA9) (x8:Bool) (x9:Int),cs = [.int .i64 x0,.int .i64 x1,.int .i64 x2,.int .i64 x3,.int .i64 x4,.int .i64 x5,.int .i64 x6,y7_0,y7_1,.bool x8,.int .i64 x9]/\v = (x0,x1,x2,x3,x4,x5,x6,v7,x8,x9)/\Rep w S zA9 [y7_0,y7_1] v7:=by
 obtain ⟨u0,u1,u2,u3,u4,u5,u6,u7,u8,u9⟩:=v
 obtain ⟨r0,q0,rfl,f0,h0⟩:=h
 obtain ⟨r1,q1,rfl,f1,h1⟩:=h0
 obtain ⟨r2,q2,rfl,f2,h2⟩:=h1
 obtain ⟨r3,q3,rfl,f3,h3⟩:=h2
 obtain ⟨r4,q4,rfl,f4,h4⟩:=h3
 obtain ⟨r5,q5,rfl,f5,h5⟩:=h4
 obtain ⟨r6,q6,rfl,f6,h6⟩:=h5
 obtain ⟨r7,q7,rfl,f7,h7⟩:=h6
 obtain ⟨r8,q8,rfl,f8,h8⟩:=h7
 have f9:=h8
 obtain rfl : r0 = _:=f0
 obtain rfl : r1 = _:=f1
 obtain rfl : r2 = _:=f2
 obtain rfl : r3 = _:=f3
 obtain rfl : r4 = _:=f4
 obtain rfl : r5 = _:=f5
 obtain rfl : r6 = _:=f6
 obtain ⟨y7_0,y7_1,rfl⟩:=zF3 r7 f7.len
 obtain rfl : r8 = _:=f8
 obtain rfl : q8 = _:=f9
 exact ⟨u0,u1,u2,u3,u4,u5,u6,y7_0,y7_1,u7,u8,u9,rfl,rfl,f7⟩
theorem xM1 {w:World} {S:Nat->Prop} (x0:Int) (x1:Int) (x2:Int) (x3:Int) (x4:Int) (x5:Int) (x6:Int) (y7_0 y7_1:Value) (v7:Vl zA9) (x8:Bool) (x9:Int) (h7:Rep w S zA9 [y7_0,y7_1] v7) : Rep w S zA7 [.int .i64 x0,.int .i64 x1,.int .i64 x2,.int .i64 x3,.int .i64 x4,.int .i64 x5,.int .i64 x6,y7_0,y7_1,.bool x8,.int .i64 x9] (x0,x1,x2,x3,x4,x5,x6,v7,x8,x9):=⟨[.int .i64 x0],[.int .i64 x1,.int .i64 x2,.int .i64 x3,.int .i64 x4,.int .i64 x5,.int .i64 x6,y7_0,y7_1,.bool x8,.int .i64 x9],rfl,rfl,⟨[.int .i64 x1],[.int .i64 x2,.int .i64 x3,.int .i64 x4,.int .i64 x5,.int .i64 x6,y7_0,y7_1,.bool x8,.int .i64 x9],rfl,rfl,⟨[.int .i64 x2],[.int .i64 x3,.int .i64 x4,.int .i64 x5,.int .i64 x6,y7_0,y7_1,.bool x8,.int .i64 x9],rfl,rfl,⟨[.int .i64 x3],[.int .i64 x4,.int .i64 x5,.int .i64 x6,y7_0,y7_1,.bool x8,.int .i64 x9],rfl,rfl,⟨[.int .i64 x4],[.int .i64 x5,.int .i64 x6,y7_0,y7_1,.bool x8,.int .i64 x9],rfl,rfl,⟨[.int .i64 x5],[.int .i64 x6,y7_0,y7_1,.bool x8,.int .i64 x9],rfl,rfl,⟨[.int .i64 x6],[y7_0,y7_1,.bool x8,.int .i64 x9],rfl,rfl,⟨[y7_0,y7_1],[.bool x8,.int .i64 x9],rfl,h7,⟨[.bool x8],[.int .i64 x9],rfl,rfl,rfl⟩⟩⟩⟩⟩⟩⟩⟩⟩
theorem zY2 {w:World} {S:Nat->Prop} {cs:List Value} {v:Vl zA4} (h:Rep w S zA4 cs v) :
    ∃ (x0:Int) (x1:Int),cs = [.int .i64 x0,.int .i64 x1]/\v = (x0,x1):=by
 obtain ⟨u0,u1⟩:=v
 obtain ⟨r0,q0,rfl,f0,h0⟩:=h
 have f1:=h0
 obtain rfl : r0 = _:=f0
 obtain rfl : q0 = _:=f1
 exact ⟨u0,u1,rfl,rfl⟩
theorem xD6 {w:World} {S:Nat->Prop} (x0:Int) (x1:Int)  : Rep w S zA4 [.int .i64 x0,.int .i64 x1] (x0,x1):=⟨[.int .i64 x0],[.int .i64 x1],rfl,rfl,rfl⟩
theorem yB8 {w:World} {S:Nat->Prop} {cs:List Value} {v:Vl zA6} (h:Rep w S zA6 cs v) :
    ∃ (x0:Int) (y1_0 y1_1:Value) (v1:Vl zA9),cs = [.int .i64 x0,y1_0,y1_1]/\v = (x0,v1)/\Rep w S zA9 [y1_0,y1_1] v1:=by
 obtain ⟨u0,u1⟩:=v
 obtain ⟨r0,q0,rfl,f0,h0⟩:=h
 have f1:=h0
 obtain rfl : r0 = _:=f0
 obtain ⟨y1_0,y1_1,rfl⟩:=zF3 q0 f1.len
 exact ⟨u0,y1_0,y1_1,u1,rfl,rfl,f1⟩
theorem xM0 {w:World} {S:Nat->Prop} (x0:Int) (y1_0 y1_1:Value) (v1:Vl zA9) (h1:Rep w S zA9 [y1_0,y1_1] v1) : Rep w S zA6 [.int .i64 x0,y1_0,y1_1] (x0,v1):=⟨[.int .i64 x0],[y1_0,y1_1],rfl,rfl,h1⟩
theorem yT1 {w:World} {S:Nat->Prop} {cs:List Value} {v:Vl zC4} (h:Rep w S zC4 cs v) :
    ∃ (x0:Int) (x1:Int) (x2:Int) (x3:Int) (a4:Option Addr) (c4:Nat) (v4:List (Vl zA6)) (x5:Int) (x6:Bool),cs = [.int .i64 x0,.int .i64 x1,.int .i64 x2,.int .i64 x3,.slice a4 v4.length c4,.int .i64 x5,.bool x6]/\v = (x0,x1,x2,x3,v4,x5,x6)/\RepL w S zA6 a4 v4:=by
 obtain ⟨u0,u1,u2,u3,u4,u5,u6⟩:=v
 obtain ⟨r0,q0,rfl,f0,h0⟩:=h
 obtain ⟨r1,q1,rfl,f1,h1⟩:=h0
 obtain ⟨r2,q2,rfl,f2,h2⟩:=h1
 obtain ⟨r3,q3,rfl,f3,h3⟩:=h2
 obtain ⟨r4,q4,rfl,f4,h4⟩:=h3
 obtain ⟨r5,q5,rfl,f5,h5⟩:=h4
 have f6:=h5
 obtain rfl : r0 = _:=f0
 obtain rfl : r1 = _:=f1
 obtain rfl : r2 = _:=f2
 obtain rfl : r3 = _:=f3
 obtain ⟨a4,c4,rfl,k4,m4⟩:=f4
 obtain rfl : r5 = _:=f5
 obtain rfl : q5 = _:=f6
 exact ⟨u0,u1,u2,u3,a4,c4,u4,u5,u6,rfl,rfl,⟨k4,m4⟩⟩
theorem xQ2 {w:World} {S:Nat->Prop} (x0:Int) (x1:Int) (x2:Int) (x3:Int) (a4:Option Addr) (c4:Nat) (v4:List (Vl zA6)) (x5:Int) (x6:Bool) (h4:RepL w S zA6 a4 v4) : Rep w S zC4 [.int .i64 x0,.int .i64 x1,.int .i64 x2,.int .i64 x3,.slice a4 v4.length c4,.int .i64 x5,.bool x6] (x0,x1,x2,x3,v4,x5,x6):=⟨[.int .i64 x0],[.int .i64 x1,.int .i64 x2,.int .i64 x3,.slice a4 v4.length c4,.int .i64 x5,.bool x6],rfl,rfl,⟨[.int .i64 x1],[.int .i64 x2,.int .i64 x3,.slice a4 v4.length c4,.int .i64 x5,.bool x6],rfl,rfl,⟨[.int .i64 x2],[.int .i64 x3,.slice a4 v4.length c4,.int .i64 x5,.bool x6],rfl,rfl,⟨[.int .i64 x3],[.slice a4 v4.length c4,.int .i64 x5,.bool x6],rfl,rfl,⟨[.slice a4 v4.length c4],[.int .i64 x5,.bool x6],rfl,⟨_,_,rfl,h4.1,h4.2⟩,⟨[.int .i64 x5],[.bool x6],rfl,rfl,rfl⟩⟩⟩⟩⟩⟩
theorem yJ0 {w:World} {S:Nat->Prop} {cs:List Value} {v:Vl zB3} (h:Rep w S zB3 cs v) :
    ∃ (x0:Int) (y1_0 y1_1:Value) (v1:Vl zA9) (x2:Bool) (x3:Bool) (x4:Int) (x5:Int) (x6:Int),cs = [.int .i64 x0,y1_0,y1_1,.bool x2,.bool x3,.int .i64 x4,.int .i64 x5,.int .i64 x6]/\v = (x0,v1,x2,x3,x4,x5,x6)/\Rep w S zA9 [y1_0,y1_1] v1:=by
 obtain ⟨u0,u1,u2,u3,u4,u5,u6⟩:=v
 obtain ⟨r0,q0,rfl,f0,h0⟩:=h
 obtain ⟨r1,q1,rfl,f1,h1⟩:=h0
 obtain ⟨r2,q2,rfl,f2,h2⟩:=h1
 obtain ⟨r3,q3,rfl,f3,h3⟩:=h2
 obtain ⟨r4,q4,rfl,f4,h4⟩:=h3
 obtain ⟨r5,q5,rfl,f5,h5⟩:=h4
 have f6:=h5
 obtain rfl : r0 = _:=f0
 obtain ⟨y1_0,y1_1,rfl⟩:=zF3 r1 f1.len
 obtain rfl : r2 = _:=f2
 obtain rfl : r3 = _:=f3
 obtain rfl : r4 = _:=f4
 obtain rfl : r5 = _:=f5
 obtain rfl : q5 = _:=f6
 exact ⟨u0,y1_0,y1_1,u1,u2,u3,u4,u5,u6,rfl,rfl,f1⟩
theorem xD8 {w:World} {S:Nat->Prop} (x0:Int) (y1_0 y1_1:Value) (v1:Vl zA9) (x2:Bool) (x3:Bool) (x4:Int) (x5:Int) (x6:Int) (h1:Rep w S zA9 [y1_0,y1_1] v1) : Rep w S zB3 [.int .i64 x0,y1_0,y1_1,.bool x2,.bool x3,.int .i64 x4,.int .i64 x5,.int .i64 x6] (x0,v1,x2,x3,x4,x5,x6):=⟨[.int .i64 x0],[y1_0,y1_1,.bool x2,.bool x3,.int .i64 x4,.int .i64 x5,.int .i64 x6],rfl,rfl,⟨[y1_0,y1_1],[.bool x2,.bool x3,.int .i64 x4,.int .i64 x5,.int .i64 x6],rfl,h1,⟨[.bool x2],[.bool x3,.int .i64 x4,.int .i64 x5,.int .i64 x6],rfl,rfl,⟨[.bool x3],[.int .i64 x4,.int .i64 x5,.int .i64 x6],rfl,rfl,⟨[.int .i64 x4],[.int .i64 x5,.int .i64 x6],rfl,rfl,⟨[.int .i64 x5],[.int .i64 x6],rfl,rfl,rfl⟩⟩⟩⟩⟩⟩
theorem yI9 {w:World} {S:Nat->Prop} {cs:List Value} {v:Vl zC5} (h:Rep w S zC5 cs v) :
    ∃ (x0:Int) (x1:Int) (x2:Int) (a3:Option Addr) (c3:Nat) (v3:List (Vl .num)) (a4:Option Addr) (c4:Nat) (v4:List (Vl zA7)) (x5:Bool),cs = [.int .i64 x0,.int .i64 x1,.int .i64 x2,.slice a3 v3.length c3,.slice a4 v4.length c4,.bool x5]/\v = (x0,x1,x2,v3,v4,x5)/\RepL w S .num a3 v3/\RepL w S zA7 a4 v4:=by
 obtain ⟨u0,u1,u2,u3,u4,u5⟩:=v
 obtain ⟨r0,q0,rfl,f0,h0⟩:=h
 obtain ⟨r1,q1,rfl,f1,h1⟩:=h0
 obtain ⟨r2,q2,rfl,f2,h2⟩:=h1
 obtain ⟨r3,q3,rfl,f3,h3⟩:=h2
 obtain ⟨r4,q4,rfl,f4,h4⟩:=h3
 have f5:=h4
 obtain rfl : r0 = _:=f0
 obtain rfl : r1 = _:=f1
 obtain rfl : r2 = _:=f2
 obtain ⟨a3,c3,rfl,k3,m3⟩:=f3
 obtain ⟨a4,c4,rfl,k4,m4⟩:=f4
 obtain rfl : q4 = _:=f5
 exact ⟨u0,u1,u2,a3,c3,u3,a4,c4,u4,u5,rfl,rfl,⟨k3,m3⟩,⟨k4,m4⟩⟩
theorem xD7 {w:World} {S:Nat->Prop} (x0:Int) (x1:Int) (x2:Int) (a3:Option Addr) (c3:Nat) (v3:List (Vl .num)) (a4:Option Addr) (c4:Nat) (v4:List (Vl zA7)) (x5:Bool) (h3:RepL w S .num a3 v3) (h4:RepL w S zA7 a4 v4) : Rep w S zC5 [.int .i64 x0,.int .i64 x1,.int .i64 x2,.slice a3 v3.length c3,.slice a4 v4.length c4,.bool x5] (x0,x1,x2,v3,v4,x5):=⟨[.int .i64 x0],[.int .i64 x1,.int .i64 x2,.slice a3 v3.length c3,.slice a4 v4.length c4,.bool x5],rfl,rfl,⟨[.int .i64 x1],[.int .i64 x2,.slice a3 v3.length c3,.slice a4 v4.length c4,.bool x5],rfl,rfl,⟨[.int .i64 x2],[.slice a3 v3.length c3,.slice a4 v4.length c4,.bool x5],rfl,rfl,⟨[.slice a3 v3.length c3],[.slice a4 v4.length c4,.bool x5],rfl,⟨_,_,rfl,h3.1,h3.2⟩,⟨[.slice a4 v4.length c4],[.bool x5],rfl,⟨_,_,rfl,h4.1,h4.2⟩,rfl⟩⟩⟩⟩⟩
theorem yT2 {w:World} {S:Nat->Prop} {cs:List Value} {v:Vl zD4} (h:Rep w S zD4 cs v) :
    ∃ (x0:Int) (x1:Int) (x2:Int) (y3_0 y3_1 y3_2 y3_3 y3_4 y3_5 y3_6:Value) (v3:Vl zC4) (y4_0 y4_1 y4_2 y4_3 y4_4 y4_5 y4_6 y4_7:Value) (v4:Vl zB3) (a5:Option Addr) (c5:Nat) (v5:List (Vl zA4)) (y6_0 y6_1 y6_2 y6_3 y6_4 y6_5:Value) (v6:Vl zC5) (y7_0 y7_1:Value) (v7:Vl zB4),cs = [.int .i64 x0,.int .i64 x1,.int .i64 x2,y3_0,y3_1,y3_2,y3_3,y3_4,y3_5,y3_6,y4_0,y4_1,y4_2,y4_3,y4_4,y4_5,y4_6,y4_7,.slice a5 v5.length c5,y6_0,y6_1,y6_2,y6_3,y6_4,y6_5,y7_0,y7_1]/\v = (x0,x1,x2,v3,v4,v5,v6,v7)/\Rep w S zC4 [y3_0,y3_1,y3_2,y3_3,y3_4,y3_5,y3_6] v3/\Rep w S zB3 [y4_0,y4_1,y4_2,y4_3,y4_4,y4_5,y4_6,y4_7] v4/\RepL w S zA4 a5 v5/\Rep w S zC5 [y6_0,y6_1,y6_2,y6_3,y6_4,y6_5] v6/\Rep w S zB4 [y7_0,y7_1] v7:=by
 obtain ⟨u0,u1,u2,u3,u4,u5,u6,u7⟩:=v
 obtain ⟨r0,q0,rfl,f0,h0⟩:=h
 obtain ⟨r1,q1,rfl,f1,h1⟩:=h0
 obtain ⟨r2,q2,rfl,f2,h2⟩:=h1
 obtain ⟨r3,q3,rfl,f3,h3⟩:=h2
 obtain ⟨r4,q4,rfl,f4,h4⟩:=h3
 obtain ⟨r5,q5,rfl,f5,h5⟩:=h4
 obtain ⟨r6,q6,rfl,f6,h6⟩:=h5
 have f7:=h6
 obtain rfl : r0 = _:=f0
 obtain rfl : r1 = _:=f1
 obtain rfl : r2 = _:=f2
 obtain ⟨y3_0,y3_1,y3_2,y3_3,y3_4,y3_5,y3_6,rfl⟩:=yJ5 r3 f3.len
 obtain ⟨y4_0,y4_1,y4_2,y4_3,y4_4,y4_5,y4_6,y4_7,rfl⟩:=yJ4 r4 f4.len
 obtain ⟨a5,c5,rfl,k5,m5⟩:=f5
 obtain ⟨y6_0,y6_1,y6_2,y6_3,y6_4,y6_5,rfl⟩:=yJ6 r6 f6.len
 obtain ⟨y7_0,y7_1,rfl⟩:=zF3 q6 f7.len
 exact ⟨u0,u1,u2,y3_0,y3_1,y3_2,y3_3,y3_4,y3_5,y3_6,u3,y4_0,y4_1,y4_2,y4_3,y4_4,y4_5,y4_6,y4_7,u4,a5,c5,u5,y6_0,y6_1,y6_2,y6_3,y6_4,y6_5,u6,y7_0,y7_1,u7,rfl,rfl,f3,f4,⟨k5,m5⟩,f6,f7⟩
theorem xQ3 {w:World} {S:Nat->Prop} (x0:Int) (x1:Int) (x2:Int) (y3_0 y3_1 y3_2 y3_3 y3_4 y3_5 y3_6:Value) (v3:Vl zC4) (y4_0 y4_1 y4_2 y4_3 y4_4 y4_5 y4_6 y4_7:Value) (v4:Vl zB3) (a5:Option Addr) (c5:Nat) (v5:List (Vl zA4)) (y6_0 y6_1 y6_2 y6_3 y6_4 y6_5:Value) (v6:Vl zC5) (y7_0 y7_1:Value) (v7:Vl zB4) (h3:Rep w S zC4 [y3_0,y3_1,y3_2,y3_3,y3_4,y3_5,y3_6] v3) (h4:Rep w S zB3 [y4_0,y4_1,y4_2,y4_3,y4_4,y4_5,y4_6,y4_7] v4) (h5:RepL w S zA4 a5 v5) (h6:Rep w S zC5 [y6_0,y6_1,y6_2,y6_3,y6_4,y6_5] v6) (h7:Rep w S zB4 [y7_0,y7_1] v7) : Rep w S zD4 [.int .i64 x0,.int .i64 x1,.int .i64 x2,y3_0,y3_1,y3_2,y3_3,y3_4,y3_5,y3_6,y4_0,y4_1,y4_2,y4_3,y4_4,y4_5,y4_6,y4_7,.slice a5 v5.length c5,y6_0,y6_1,y6_2,y6_3,y6_4,y6_5,y7_0,y7_1] (x0,x1,x2,v3,v4,v5,v6,v7):=⟨[.int .i64 x0],[.int .i64 x1,.int .i64 x2,y3_0,y3_1,y3_2,y3_3,y3_4,y3_5,y3_6,y4_0,y4_1,y4_2,y4_3,y4_4,y4_5,y4_6,y4_7,.slice a5 v5.length c5,y6_0,y6_1,y6_2,y6_3,y6_4,y6_5,y7_0,y7_1],rfl,rfl,⟨[.int .i64 x1],[.int .i64 x2,y3_0,y3_1,y3_2,y3_3,y3_4,y3_5,y3_6,y4_0,y4_1,y4_2,y4_3,y4_4,y4_5,y4_6,y4_7,.slice a5 v5.length c5,y6_0,y6_1,y6_2,y6_3,y6_4,y6_5,y7_0,y7_1],rfl,rfl,⟨[.int .i64 x2],[y3_0,y3_1,y3_2,y3_3,y3_4,y3_5,y3_6,y4_0,y4_1,y4_2,y4_3,y4_4,y4_5,y4_6,y4_7,.slice a5 v5.length c5,y6_0,y6_1,y6_2,y6_3,y6_4,y6_5,y7_0,y7_1],rfl,rfl,⟨[y3_0,y3_1,y3_2,y3_3,y3_4,y3_5,y3_6],[y4_0,y4_1,y4_2,y4_3,y4_4,y4_5,y4_6,y4_7,.slice a5 v5.length c5,y6_0,y6_1,y6_2,y6_3,y6_4,y6_5,y7_0,y7_1],rfl,h3,⟨[y4_0,y4_1,y4_2,y4_3,y4_4,y4_5,y4_6,y4_7],[.slice a5 v5.length c5,y6_0,y6_1,y6_2,y6_3,y6_4,y6_5,y7_0,y7_1],rfl,h4,⟨[.slice a5 v5.length c5],[y6_0,y6_1,y6_2,y6_3,y6_4,y6_5,y7_0,y7_1],rfl,⟨_,_,rfl,h5.1,h5.2⟩,⟨[y6_0,y6_1,y6_2,y6_3,y6_4,y6_5],[y7_0,y7_1],rfl,h6,h7⟩⟩⟩⟩⟩⟩⟩
theorem yB9 {w:World} {S:Nat->Prop} {cs:List Value} {v:Vl zA8} (h:Rep w S zA8 cs v) :
    ∃ (x0:Int) (x1:Int) (y2_0 y2_1 y2_2 y2_3 y2_4 y2_5 y2_6 y2_7 y2_8 y2_9 y2_10 y2_11 y2_12 y2_13 y2_14 y2_15 y2_16 y2_17 y2_18 y2_19 y2_20 y2_21 y2_22 y2_23 y2_24 y2_25 y2_26:Value) (v2:Vl zD4),cs = [.int .i64 x0,.int .i64 x1,y2_0,y2_1,y2_2,y2_3,y2_4,y2_5,y2_6,y2_7,y2_8,y2_9,y2_10,y2_11,y2_12,y2_13,y2_14,y2_15,y2_16,y2_17,y2_18,y2_19,y2_20,y2_21,y2_22,y2_23,y2_24,y2_25,y2_26]/\v = (x0,x1,v2)/\Rep w S zD4 [y2_0,y2_1,y2_2,y2_3,y2_4,y2_5,y2_6,y2_7,y2_8,y2_9,y2_10,y2_11,y2_12,y2_13,y2_14,y2_15,y2_16,y2_17,y2_18,y2_19,y2_20,y2_21,y2_22,y2_23,y2_24,y2_25,y2_26] v2:=by
 obtain ⟨u0,u1,u2⟩:=v
 obtain ⟨r0,q0,rfl,f0,h0⟩:=h
 obtain ⟨r1,q1,rfl,f1,h1⟩:=h0
 have f2:=h1
 obtain rfl : r0 = _:=f0
 obtain rfl : r1 = _:=f1
 obtain ⟨y2_0,y2_1,y2_2,y2_3,y2_4,y2_5,y2_6,y2_7,y2_8,y2_9,y2_10,y2_11,y2_12,y2_13,y2_14,y2_15,y2_16,y2_17,y2_18,y2_19,y2_20,y2_21,y2_22,y2_23,y2_24,y2_25,y2_26,rfl⟩:=yC2 q1 f2.len
 exact ⟨u0,u1,y2_0,y2_1,y2_2,y2_3,y2_4,y2_5,y2_6,y2_7,y2_8,y2_9,y2_10,y2_11,y2_12,y2_13,y2_14,y2_15,y2_16,y2_17,y2_18,y2_19,y2_20,y2_21,y2_22,y2_23,y2_24,y2_25,y2_26,u2,rfl,rfl,f2⟩
theorem yT7 {w:World} {S:Nat->Prop} (x0:Int) (x1:Int) (y2_0 y2_1 y2_2 y2_3 y2_4 y2_5 y2_6 y2_7 y2_8 y2_9 y2_10 y2_11 y2_12 y2_13 y2_14 y2_15 y2_16 y2_17 y2_18 y2_19 y2_20 y2_21 y2_22 y2_23 y2_24 y2_25 y2_26:Value) (v2:Vl zD4) (h2:Rep w S zD4 [y2_0,y2_1,y2_2,y2_3,y2_4,y2_5,y2_6,y2_7,y2_8,y2_9,y2_10,y2_11,y2_12,y2_13,y2_14,y2_15,y2_16,y2_17,y2_18,y2_19,y2_20,y2_21,y2_22,y2_23,y2_24,y2_25,y2_26] v2) : Rep w S zA8 [.int .i64 x0,.int .i64 x1,y2_0,y2_1,y2_2,y2_3,y2_4,y2_5,y2_6,y2_7,y2_8,y2_9,y2_10,y2_11,y2_12,y2_13,y2_14,y2_15,y2_16,y2_17,y2_18,y2_19,y2_20,y2_21,y2_22,y2_23,y2_24,y2_25,y2_26] (x0,x1,v2):=⟨[.int .i64 x0],[.int .i64 x1,y2_0,y2_1,y2_2,y2_3,y2_4,y2_5,y2_6,y2_7,y2_8,y2_9,y2_10,y2_11,y2_12,y2_13,y2_14,y2_15,y2_16,y2_17,y2_18,y2_19,y2_20,y2_21,y2_22,y2_23,y2_24,y2_25,y2_26],rfl,rfl,⟨[.int .i64 x1],[y2_0,y2_1,y2_2,y2_3,y2_4,y2_5,y2_6,y2_7,y2_8,y2_9,y2_10,y2_11,y2_12,y2_13,y2_14,y2_15,y2_16,y2_17,y2_18,y2_19,y2_20,y2_21,y2_22,y2_23,y2_24,y2_25,y2_26],rfl,rfl,h2⟩⟩
theorem zR8 {w:World} {S:Nat->Prop} {cs:List Value} {v:Vl zA2} (h:Rep w S zA2 cs v) :
    ∃ (x0:Int) (x1:Int) (y2_0 y2_1:Value) (v2:Vl zB4) (a3:Option Addr) (c3:Nat) (v3:List UInt8),cs = [.int .i64 x0,.int .i64 x1,y2_0,y2_1,.slice a3 v3.length c3]/\v = (x0,x1,v2,v3)/\Rep w S zB4 [y2_0,y2_1] v2/\(v3.length<=c3/\RepB w S a3 v3):=by
 obtain ⟨u0,u1,u2,u3⟩:=v
 obtain ⟨r0,q0,rfl,f0,h0⟩:=h
 obtain ⟨r1,q1,rfl,f1,h1⟩:=h0
 obtain ⟨r2,q2,rfl,f2,h2⟩:=h1
 have f3:=h2
 obtain rfl : r0 = _:=f0
 obtain rfl : r1 = _:=f1
 obtain ⟨y2_0,y2_1,rfl⟩:=zF3 r2 f2.len
 obtain ⟨a3,c3,rfl,g3,k3,m3⟩:=f3
 exact ⟨u0,u1,y2_0,y2_1,u2,a3,c3,u3,rfl,rfl,f2,⟨g3,k3,m3⟩⟩
theorem zP9 {w:World} {S:Nat->Prop} (x0:Int) (x1:Int) (y2_0 y2_1:Value) (v2:Vl zB4) (a3:Option Addr) (c3:Nat) (v3:List UInt8) (h2:Rep w S zB4 [y2_0,y2_1] v2) (h3:(v3.length<=c3/\RepB w S a3 v3)) : Rep w S zA2 [.int .i64 x0,.int .i64 x1,y2_0,y2_1,.slice a3 v3.length c3] (x0,x1,v2,v3):=⟨[.int .i64 x0],[.int .i64 x1,y2_0,y2_1,.slice a3 v3.length c3],rfl,rfl,⟨[.int .i64 x1],[y2_0,y2_1,.slice a3 v3.length c3],rfl,rfl,⟨[y2_0,y2_1],[.slice a3 v3.length c3],rfl,h2,⟨_,_,rfl,h3.1,h3.2.1,h3.2.2⟩⟩⟩⟩
theorem xQ7 (x0:Int) (x1:Int) : en zA9 (x0,x1) = (((enN x0).1 ++ (enN x1).1),((enN x0).2 || (enN x1).2)):=rfl
theorem xF4 (v0:List (Vl .num)) (v1:List (Vl .num)) : en zB4 (v0,v1) = (((en (.lst .num) v0).1 ++ (en (.lst .num) v1).1),((en (.lst .num) v0).2 || (en (.lst .num) v1).2)):=rfl
theorem yU4 (x0:Int) (x1:Int) (x2:Int) (x3:Int) (x4:Int) (x5:Int) (x6:Int) (v7:Vl zA9) (x8:Bool) (x9:Int) : en zA7 (x0,x1,x2,x3,x4,x5,x6,v7,x8,x9) = (((enN x0).1 ++ ((enN x1).1 ++ ((enN x2).1 ++ ((enN x3).1 ++ ((enN x4).1 ++ ((enN x5).1 ++ ((enN x6).1 ++ ((en zA9 v7).1 ++ ((en .tru x8).1 ++ (enN x9).1))))))))),((enN x0).2 || ((enN x1).2 || ((enN x2).2 || ((enN x3).2 || ((enN x4).2 || ((enN x5).2 || ((enN x6).2 || ((en zA9 v7).2 || ((en .tru x8).2 || (enN x9).2)))))))))):=rfl
theorem yK7 (x0:Int) (x1:Int) : en zA4 (x0,x1) = (((enN x0).1 ++ (enN x1).1),((enN x0).2 || (enN x1).2)):=rfl
theorem yU2 (x0:Int) (v1:Vl zA9) : en zA6 (x0,v1) = (((enN x0).1 ++ (en zA9 v1).1),((enN x0).2 || (en zA9 v1).2)):=rfl
theorem xQ8 (x0:Int) (x1:Int) (x2:Int) (x3:Int) (v4:List (Vl zA6)) (x5:Int) (x6:Bool) : en zC4 (x0,x1,x2,x3,v4,x5,x6) = (((enN x0).1 ++ ((enN x1).1 ++ ((enN x2).1 ++ ((enN x3).1 ++ ((en (.lst zA6) v4).1 ++ ((enN x5).1 ++ (en .tru x6).1)))))),((enN x0).2 || ((enN x1).2 || ((enN x2).2 || ((enN x3).2 || ((en (.lst zA6) v4).2 || ((enN x5).2 || (en .tru x6).2))))))):=rfl
theorem xF3 (x0:Int) (v1:Vl zA9) (x2:Bool) (x3:Bool) (x4:Int) (x5:Int) (x6:Int) : en zB3 (x0,v1,x2,x3,x4,x5,x6) = (((enN x0).1 ++ ((en zA9 v1).1 ++ ((en .tru x2).1 ++ ((en .tru x3).1 ++ ((enN x4).1 ++ ((enN x5).1 ++ (enN x6).1)))))),((enN x0).2 || ((en zA9 v1).2 || ((en .tru x2).2 || ((en .tru x3).2 || ((enN x4).2 || ((enN x5).2 || (enN x6).2))))))):=rfl
theorem xF2 (x0:Int) (x1:Int) (x2:Int) (v3:List (Vl .num)) (v4:List (Vl zA7)) (x5:Bool) : en zC5 (x0,x1,x2,v3,v4,x5) = (((enN x0).1 ++ ((enN x1).1 ++ ((enN x2).1 ++ ((en (.lst .num) v3).1 ++ ((en (.lst zA7) v4).1 ++ (en .tru x5).1))))),((enN x0).2 || ((enN x1).2 || ((enN x2).2 || ((en (.lst .num) v3).2 || ((en (.lst zA7) v4).2 || (en .tru x5).2)))))):=rfl
theorem xQ9 (x0:Int) (x1:Int) (x2:Int) (v3:Vl zC4) (v4:Vl zB3) (v5:List (Vl zA4)) (v6:Vl zC5) (v7:Vl zB4) : en zD4 (x0,x1,x2,v3,v4,v5,v6,v7) = (((enN x0).1 ++ ((enN x1).1 ++ ((enN x2).1 ++ ((en zC4 v3).1 ++ ((en zB3 v4).1 ++ ((en (.lst zA4) v5).1 ++ ((en zC5 v6).1 ++ (en zB4 v7).1))))))),((enN x0).2 || ((enN x1).2 || ((enN x2).2 || ((en zC4 v3).2 || ((en zB3 v4).2 || ((en (.lst zA4) v5).2 || ((en zC5 v6).2 || (en zB4 v7).2)))))))):=rfl
theorem yU3 (x0:Int) (x1:Int) (v2:Vl zD4) : en zA8 (x0,x1,v2) = (((enN x0).1 ++ ((enN x1).1 ++ (en zD4 v2).1)),((enN x0).2 || ((enN x1).2 || (en zD4 v2).2))):=rfl
theorem zZ4 (x0:Int) (x1:Int) (v2:Vl zB4) (v3:List UInt8) : en zA2 (x0,x1,v2,v3) = (((enN x0).1 ++ ((enN x1).1 ++ ((en zB4 v2).1 ++ (en .byt v3).1))),((enN x0).2 || ((enN x1).2 || ((en zB4 v2).2 || (en .byt v3).2)))):=rfl
theorem xE3 (v:Vl .num) : (en .num v).1.length<=6:=by have h:=zH3 .num v; rwa [show mx .num = 6 from by kernel_rfl] at h
theorem zN5 (v:Vl .tru) : (en .tru v).1.length<=6:=by have h:=zH3 .tru v; rwa [show mx .tru = 6 from by kernel_rfl] at h
theorem zQ0 (v:Vl zA9) : (en zA9 v).1.length<=12:=by have h:=zH3 zA9 v; rwa [show mx zA9 = 12 from by kernel_rfl] at h
theorem xM6 (v:Vl zB4) : (en zB4 v).1.length<=780:=by have h:=zH3 zB4 v; rwa [show mx zB4 = 780 from by kernel_rfl] at h
theorem yK2 (v:Vl zA7) : (en zA7 v).1.length<=66:=by have h:=zH3 zA7 v; rwa [show mx zA7 = 66 from by kernel_rfl] at h
theorem yC3 (v:Vl zA4) : (en zA4 v).1.length<=12:=by have h:=zH3 zA4 v; rwa [show mx zA4 = 12 from by kernel_rfl] at h
theorem yK1 (v:Vl zA6) : (en zA6 v).1.length<=18:=by have h:=zH3 zA6 v; rwa [show mx zA6 = 18 from by kernel_rfl] at h
theorem yE8 (v:Vl zC4) : (en zC4 v).1.length<=1194:=by have h:=zH3 zC4 v; rwa [show mx zC4 = 1194 from by kernel_rfl] at h
theorem yE7 (v:Vl zB3) : (en zB3 v).1.length<=48:=by have h:=zH3 zB3 v; rwa [show mx zB3 = 48 from by kernel_rfl] at h
theorem xM5 (v:Vl zC5) : (en zC5 v).1.length<=4644:=by have h:=zH3 zC5 v; rwa [show mx zC5 = 4644 from by kernel_rfl] at h
theorem xE4 (v:Vl zA8) : (en zA8 v).1.length<=7470:=by have h:=zH3 zA8 v; rwa [show mx zA8 = 7470 from by kernel_rfl] at h
theorem zU8 (v:Vl zA2) : (en zA2 v).1.length<=66334:=by have h:=zH3 zA2 v; rwa [show mx zA2 = 66334 from by kernel_rfl] at h
theorem zY9 (v:Vl (.lst .num)) : (en (.lst .num) v).1.length<=390:=by have h:=zH3 (.lst .num) v; rwa [show mx (.lst .num) = 390 from by kernel_rfl] at h
theorem yP7 (v:Vl (.lst zA7)) : (en (.lst zA7) v).1.length<=4230:=by have h:=zH3 (.lst zA7) v; rwa [show mx (.lst zA7) = 4230 from by kernel_rfl] at h
theorem zU9 (v:Vl (.lst zA4)) : (en (.lst zA4) v).1.length<=774:=by have h:=zH3 (.lst zA4) v; rwa [show mx (.lst zA4) = 774 from by kernel_rfl] at h
theorem zZ0 (v:Vl (.lst zA6)) : (en (.lst zA6) v).1.length<=1158:=by have h:=zH3 (.lst zA6) v; rwa [show mx (.lst zA6) = 1158 from by kernel_rfl] at h
end
section
open Go.RowKit
def zK5 (b:Bool) : Int:=if b = true then 1 else 0
def zD6 (r:List UInt8 × Bool) : List UInt8:=if r.2 = true then [] else r.1
end
end Go.Proofs.YtocoimjhglackaaGreat
