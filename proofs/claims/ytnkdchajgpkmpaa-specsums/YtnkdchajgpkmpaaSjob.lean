/- Jobs in memory; Job, of the code. -/
import Derived.Test.YtnkdchajgpkmpaaSadd
import Derived.LoopTactic
import Derived.RegionTactic
namespace Go.Proofs.Ytnkdchajgpkmpaa
open Go.RowKit

structure Gp where
  n : Int
  c : Int
  m : Int
instance : Inhabited Gp := ⟨⟨0, 0, 0⟩⟩
def gt (L : List Gp) (i : Nat) : Gp := L.getD i default
theorem gt_mem {L : List Gp} {i : Nat} (h : i < L.length) : gt L i ∈ L := by
  have e : gt L i = L[i] := by simp [gt, h]
  rw [e]
  exact List.getElem_mem h
/- the groups L lie behind the address a -/
def Grs (w : World) (a : Option Addr) (L : List Gp) : Prop := L ≠ [] → ∃ b off, a = some ⟨b, off, none⟩ ∧ b < w.heap.size ∧ ∀ j, j < L.length → w.cell? ⟨b, off + j * 3, none⟩ = some (.int .i64 (gt L j).n) ∧ w.cell? ⟨b, off + j * 3 + 1, none⟩ = some (.int .i64 (gt L j).c) ∧ w.cell? ⟨b, off + j * 3 + 2, none⟩ = some (.int .i64 (gt L j).m)
theorem Grs.grow {w w' : World} {a : Option Addr} {L : List Gp} (h : Grs w a L) (hb : Below w.heap.size w w') : Grs w' a L := by
  intro hne
  obtain ⟨b, off, h1, h2, h3⟩ := h hne
  refine ⟨b, off, h1, Nat.lt_of_lt_of_le h2 hb.size, fun j hj => ?_⟩
  obtain ⟨c0, c1, c2⟩ := h3 j hj
  exact ⟨(hb.cell (p := ⟨b, _, none⟩) h2).trans c0, (hb.cell (p := ⟨b, _, none⟩) h2).trans c1, (hb.cell (p := ⟨b, _, none⟩) h2).trans c2⟩
theorem Grs.at {w : World} {a : Option Addr} {L : List Gp} (h : Grs w a L) (k : Nat) (hk : k < L.length) : ∃ b off, a = some ⟨b, off, none⟩ ∧ b < w.heap.size ∧ w.cell? ⟨b, off + k * 3, none⟩ = some (.int .i64 (gt L k).n) ∧ w.cell? ⟨b, off + k * 3 + 1, none⟩ = some (.int .i64 (gt L k).c) ∧ w.cell? ⟨b, off + k * 3 + 2, none⟩ = some (.int .i64 (gt L k).m) := by
  obtain ⟨b, off, h1, h2, h3⟩ := h (fun e => by subst e; simp at hk)
  exact ⟨b, off, h1, h2, h3 k hk⟩

def loN (ty : Int) : Int := if ty = 3 then 1 else 0
def hiN (ty : Int) : Int := if ty = 3 then 1 else 4
def grpB (ty : Int) (g : Gp) : Bool := inB (loN ty) (hiN ty) g.n && (inB 0 1099511627776 g.c && inB 0 1099511627776 g.m)
def jobB (id ty pr pa : Int) (L : List Gp) : Bool := inB 1 1099511627776 id && (inB 1 3 ty && (inB 1 100 pr && (inB 1 8 pa && (inB 1 2 (L.length : Int) && L.all (grpB ty)))))
def errJ (b : Bool) : Int := if b = true then 0 else 30

structure JbS (w wk : World) (cs : Array Value) (a : Option Addr) (L : List Gp) : Prop where
  j : wk.heap[w.heap.size]? = some (.cells cs 24 (0, 0))
  g : Grs wk a L
  bel : Below w.heap.size w wk
theorem JbS.grow {w wk w' : World} {cs : Array Value} {a : Option Addr} {L : List Gp} (h : JbS w wk cs a L) (hb : Below wk.heap.size wk w') : JbS w w' cs a L :=
  ⟨(hb.block _ (heap_lt h.j)).trans h.j, h.g.grow hb, h.bel.trans (hb.mono h.bel.size)⟩
theorem JbS.begin (w : World) (cs : Array Value) (a : Option Addr) (L : List Gp) (h : Grs w a L) : JbS w (w.alloc (.cells cs 24)) cs a L :=
  ⟨heap_alloc_new w _, h.grow (below1 _ _), below1 _ _⟩
theorem JbS.c {w wk : World} {cs : Array Value} {a : Option Addr} {L : List Gp} (h : JbS w wk cs a L) (k : Nat) : wk.cell? ⟨w.heap.size, k, none⟩ = cs[k]? := cell_of_row wk _ k cs 24 (0, 0) h.j
theorem JbS.cells {w wk : World} {id ty pr pa ve : Int} {st : Bool} {b : Option Addr} {len cap : Nat} {a : Option Addr} {L : List Gp} (h : JbS w wk #[.int .i64 id, .int .i64 ty, .int .i64 pr, .int .i64 pa, .slice b len cap, .int .i64 ve, .bool st] a L) : wk.cell? ⟨w.heap.size, 0, none⟩ = some (.int .i64 id) ∧ wk.cell? ⟨w.heap.size, 1, none⟩ = some (.int .i64 ty) ∧ wk.cell? ⟨w.heap.size, 2, none⟩ = some (.int .i64 pr) ∧ wk.cell? ⟨w.heap.size, 3, none⟩ = some (.int .i64 pa) ∧ wk.cell? ⟨w.heap.size, 4, none⟩ = some (.slice b len cap) :=
  ⟨h.c 0, h.c 1, h.c 2, h.c 3, h.c 4⟩
theorem clo_is {a b n : Int} {p q : Nat} {w : World} {d : Bool} (hd : inB a b n = d) (h : Btw w p q a b) : Calls Try.prog 21 #[.int .i64 n, .pointer (some ⟨p, 0, none⟩), .pointer (some ⟨q, 0, none⟩)] w fun e w' => e = .returned (.bool d) ∧ w' = w := by
  rw [← hd]
  exact clo_any a b n p q w h
theorem both_is {a b x y : Int} {p q : Nat} {w : World} {d : Bool} (hd : (inB a b x && inB a b y) = d) (h : Btw w p q a b) : Calls Try.prog 19 #[.agg #[.int .i64 x, .int .i64 y], .func (.func 21) #[] #[.pointer (some ⟨p, 0, none⟩), .pointer (some ⟨q, 0, none⟩)]] w fun e w' => e = .returned (.bool d) ∧ Below w.heap.size w w' := by
  rw [← hd]
  exact both_any a b x y p q w h

set_option maxHeartbeats 4000000 in
theorem job_head (d1 d2 d3 d4 d5 : Bool) (id ty pr pa ve : Int) (st : Bool) (a : Option Addr) (cap : Nat) (L : List Gp) (w : World) (hg : Grs w a L) (D1 : Hid (inB 1 1099511627776 id = d1)) (D2 : Hid (inB 1 3 ty = d2)) (D3 : Hid (inB 1 100 pr = d3)) (D4 : Hid (inB 1 8 pa = d4)) (D5 : Hid (inB 1 2 (L.length : Int) = d5)) (hno : (d1 && (d2 && (d3 && (d4 && d5)))) = false) :
    Calls Try.prog 8 #[.agg #[.int .i64 id, .int .i64 ty, .int .i64 pr, .int .i64 pa, .slice a L.length cap, .int .i64 ve, .bool st]] w fun e w' => e = .returned (.int .i64 30) ∧ Below w.heap.size w w' := by
  have H0 := hidOf (JbS.begin w #[.int .i64 id, .int .i64 ty, .int .i64 pr, .int .i64 pa, .slice a L.length cap, .int .i64 ve, .bool st] a L hg)
  clear hg
  cases d1
  · clear hno
    go_enter Try.func8, Try.ntmps8
    go_wp2_with (first
      | (go_at_call 17; have hh := H0; clear H0; refine (between_any 1 1099511627776 _).mono ?_; rintro e w1 ⟨p1, q1, rfl, hq, hb⟩; have H1 := hidOf (hh.out.grow hb); clear hh; have Q1 := hidOf hq; clear hb hq)
      | (go_at_call 17; have hh := H1; clear H1; refine (between_any 1 3 _).mono ?_; rintro e w2 ⟨p2, q2, rfl, hq, hb⟩; have H2 := hidOf (hh.out.grow hb); clear hh; have Q2 := hidOf hq; replace Q1 := hidOf (Q1.out.grow hb); clear hb hq)
      | (go_at_call 17; have hh := H2; clear H2; refine (between_any 1 100 _).mono ?_; rintro e w3 ⟨p3, q3, rfl, hq, hb⟩; have H3 := hidOf (hh.out.grow hb); clear hh; have Q3 := hidOf hq; replace Q1 := hidOf (Q1.out.grow hb); replace Q2 := hidOf (Q2.out.grow hb); clear hb hq)
      | (go_at_call 17; have hh := H3; clear H3; refine (between_any 1 8 _).mono ?_; rintro e w4 ⟨p4, q4, rfl, hq, hb⟩; have H4 := hidOf (hh.out.grow hb); clear hh; have Q4 := hidOf hq; replace Q1 := hidOf (Q1.out.grow hb); replace Q2 := hidOf (Q2.out.grow hb); replace Q3 := hidOf (Q3.out.grow hb); clear hb hq)
      | (go_at_call 17; have hh := H4; clear H4; refine (between_any 1 2 _).mono ?_; rintro e w5 ⟨p5, q5, rfl, hq, hb⟩; have H5 := hidOf (hh.out.grow hb); clear hh; have Q5 := hidOf hq; replace Q1 := hidOf (Q1.out.grow hb); replace Q2 := hidOf (Q2.out.grow hb); replace Q3 := hidOf (Q3.out.grow hb); replace Q4 := hidOf (Q4.out.grow hb); clear hb hq; obtain ⟨c0, c1, c2, c3, c4⟩ := H5.out.cells; have lj := heap_lt H5.out.j)
      | (go_at_call 21; have hh := Q1; clear Q1; refine (clo_is D1.out hh.out).mono ?_; rintro e w' ⟨rfl, rfl⟩; clear hh)
      | (go_at_call 21; have hh := Q2; clear Q2; refine (clo_is D2.out hh.out).mono ?_; rintro e w' ⟨rfl, rfl⟩; clear hh)
      | (go_at_call 21; have hh := Q3; clear Q3; refine (clo_is D3.out hh.out).mono ?_; rintro e w' ⟨rfl, rfl⟩; clear hh)
      | (go_at_call 21; have hh := Q4; clear Q4; refine (clo_is D4.out hh.out).mono ?_; rintro e w' ⟨rfl, rfl⟩; clear hh)
      | (go_at_call 21; have hh := Q5; clear Q5; refine (clo_is D5.out hh.out).mono ?_; rintro e w' ⟨rfl, rfl⟩; clear hh))
    go_ret
    exact ⟨rfl, H5.out.bel⟩
  · skip
    cases d2
    · clear hno
      go_enter Try.func8, Try.ntmps8
      go_wp2_with (first
        | (go_at_call 17; have hh := H0; clear H0; refine (between_any 1 1099511627776 _).mono ?_; rintro e w1 ⟨p1, q1, rfl, hq, hb⟩; have H1 := hidOf (hh.out.grow hb); clear hh; have Q1 := hidOf hq; clear hb hq)
        | (go_at_call 17; have hh := H1; clear H1; refine (between_any 1 3 _).mono ?_; rintro e w2 ⟨p2, q2, rfl, hq, hb⟩; have H2 := hidOf (hh.out.grow hb); clear hh; have Q2 := hidOf hq; replace Q1 := hidOf (Q1.out.grow hb); clear hb hq)
        | (go_at_call 17; have hh := H2; clear H2; refine (between_any 1 100 _).mono ?_; rintro e w3 ⟨p3, q3, rfl, hq, hb⟩; have H3 := hidOf (hh.out.grow hb); clear hh; have Q3 := hidOf hq; replace Q1 := hidOf (Q1.out.grow hb); replace Q2 := hidOf (Q2.out.grow hb); clear hb hq)
        | (go_at_call 17; have hh := H3; clear H3; refine (between_any 1 8 _).mono ?_; rintro e w4 ⟨p4, q4, rfl, hq, hb⟩; have H4 := hidOf (hh.out.grow hb); clear hh; have Q4 := hidOf hq; replace Q1 := hidOf (Q1.out.grow hb); replace Q2 := hidOf (Q2.out.grow hb); replace Q3 := hidOf (Q3.out.grow hb); clear hb hq)
        | (go_at_call 17; have hh := H4; clear H4; refine (between_any 1 2 _).mono ?_; rintro e w5 ⟨p5, q5, rfl, hq, hb⟩; have H5 := hidOf (hh.out.grow hb); clear hh; have Q5 := hidOf hq; replace Q1 := hidOf (Q1.out.grow hb); replace Q2 := hidOf (Q2.out.grow hb); replace Q3 := hidOf (Q3.out.grow hb); replace Q4 := hidOf (Q4.out.grow hb); clear hb hq; obtain ⟨c0, c1, c2, c3, c4⟩ := H5.out.cells; have lj := heap_lt H5.out.j)
        | (go_at_call 21; have hh := Q1; clear Q1; refine (clo_is D1.out hh.out).mono ?_; rintro e w' ⟨rfl, rfl⟩; clear hh)
        | (go_at_call 21; have hh := Q2; clear Q2; refine (clo_is D2.out hh.out).mono ?_; rintro e w' ⟨rfl, rfl⟩; clear hh)
        | (go_at_call 21; have hh := Q3; clear Q3; refine (clo_is D3.out hh.out).mono ?_; rintro e w' ⟨rfl, rfl⟩; clear hh)
        | (go_at_call 21; have hh := Q4; clear Q4; refine (clo_is D4.out hh.out).mono ?_; rintro e w' ⟨rfl, rfl⟩; clear hh)
        | (go_at_call 21; have hh := Q5; clear Q5; refine (clo_is D5.out hh.out).mono ?_; rintro e w' ⟨rfl, rfl⟩; clear hh))
      go_ret
      exact ⟨rfl, H5.out.bel⟩
    · skip
      cases d3
      · clear hno
        go_enter Try.func8, Try.ntmps8
        go_wp2_with (first
          | (go_at_call 17; have hh := H0; clear H0; refine (between_any 1 1099511627776 _).mono ?_; rintro e w1 ⟨p1, q1, rfl, hq, hb⟩; have H1 := hidOf (hh.out.grow hb); clear hh; have Q1 := hidOf hq; clear hb hq)
          | (go_at_call 17; have hh := H1; clear H1; refine (between_any 1 3 _).mono ?_; rintro e w2 ⟨p2, q2, rfl, hq, hb⟩; have H2 := hidOf (hh.out.grow hb); clear hh; have Q2 := hidOf hq; replace Q1 := hidOf (Q1.out.grow hb); clear hb hq)
          | (go_at_call 17; have hh := H2; clear H2; refine (between_any 1 100 _).mono ?_; rintro e w3 ⟨p3, q3, rfl, hq, hb⟩; have H3 := hidOf (hh.out.grow hb); clear hh; have Q3 := hidOf hq; replace Q1 := hidOf (Q1.out.grow hb); replace Q2 := hidOf (Q2.out.grow hb); clear hb hq)
          | (go_at_call 17; have hh := H3; clear H3; refine (between_any 1 8 _).mono ?_; rintro e w4 ⟨p4, q4, rfl, hq, hb⟩; have H4 := hidOf (hh.out.grow hb); clear hh; have Q4 := hidOf hq; replace Q1 := hidOf (Q1.out.grow hb); replace Q2 := hidOf (Q2.out.grow hb); replace Q3 := hidOf (Q3.out.grow hb); clear hb hq)
          | (go_at_call 17; have hh := H4; clear H4; refine (between_any 1 2 _).mono ?_; rintro e w5 ⟨p5, q5, rfl, hq, hb⟩; have H5 := hidOf (hh.out.grow hb); clear hh; have Q5 := hidOf hq; replace Q1 := hidOf (Q1.out.grow hb); replace Q2 := hidOf (Q2.out.grow hb); replace Q3 := hidOf (Q3.out.grow hb); replace Q4 := hidOf (Q4.out.grow hb); clear hb hq; obtain ⟨c0, c1, c2, c3, c4⟩ := H5.out.cells; have lj := heap_lt H5.out.j)
          | (go_at_call 21; have hh := Q1; clear Q1; refine (clo_is D1.out hh.out).mono ?_; rintro e w' ⟨rfl, rfl⟩; clear hh)
          | (go_at_call 21; have hh := Q2; clear Q2; refine (clo_is D2.out hh.out).mono ?_; rintro e w' ⟨rfl, rfl⟩; clear hh)
          | (go_at_call 21; have hh := Q3; clear Q3; refine (clo_is D3.out hh.out).mono ?_; rintro e w' ⟨rfl, rfl⟩; clear hh)
          | (go_at_call 21; have hh := Q4; clear Q4; refine (clo_is D4.out hh.out).mono ?_; rintro e w' ⟨rfl, rfl⟩; clear hh)
          | (go_at_call 21; have hh := Q5; clear Q5; refine (clo_is D5.out hh.out).mono ?_; rintro e w' ⟨rfl, rfl⟩; clear hh))
        go_ret
        exact ⟨rfl, H5.out.bel⟩
      · skip
        cases d4
        · clear hno
          go_enter Try.func8, Try.ntmps8
          go_wp2_with (first
            | (go_at_call 17; have hh := H0; clear H0; refine (between_any 1 1099511627776 _).mono ?_; rintro e w1 ⟨p1, q1, rfl, hq, hb⟩; have H1 := hidOf (hh.out.grow hb); clear hh; have Q1 := hidOf hq; clear hb hq)
            | (go_at_call 17; have hh := H1; clear H1; refine (between_any 1 3 _).mono ?_; rintro e w2 ⟨p2, q2, rfl, hq, hb⟩; have H2 := hidOf (hh.out.grow hb); clear hh; have Q2 := hidOf hq; replace Q1 := hidOf (Q1.out.grow hb); clear hb hq)
            | (go_at_call 17; have hh := H2; clear H2; refine (between_any 1 100 _).mono ?_; rintro e w3 ⟨p3, q3, rfl, hq, hb⟩; have H3 := hidOf (hh.out.grow hb); clear hh; have Q3 := hidOf hq; replace Q1 := hidOf (Q1.out.grow hb); replace Q2 := hidOf (Q2.out.grow hb); clear hb hq)
            | (go_at_call 17; have hh := H3; clear H3; refine (between_any 1 8 _).mono ?_; rintro e w4 ⟨p4, q4, rfl, hq, hb⟩; have H4 := hidOf (hh.out.grow hb); clear hh; have Q4 := hidOf hq; replace Q1 := hidOf (Q1.out.grow hb); replace Q2 := hidOf (Q2.out.grow hb); replace Q3 := hidOf (Q3.out.grow hb); clear hb hq)
            | (go_at_call 17; have hh := H4; clear H4; refine (between_any 1 2 _).mono ?_; rintro e w5 ⟨p5, q5, rfl, hq, hb⟩; have H5 := hidOf (hh.out.grow hb); clear hh; have Q5 := hidOf hq; replace Q1 := hidOf (Q1.out.grow hb); replace Q2 := hidOf (Q2.out.grow hb); replace Q3 := hidOf (Q3.out.grow hb); replace Q4 := hidOf (Q4.out.grow hb); clear hb hq; obtain ⟨c0, c1, c2, c3, c4⟩ := H5.out.cells; have lj := heap_lt H5.out.j)
            | (go_at_call 21; have hh := Q1; clear Q1; refine (clo_is D1.out hh.out).mono ?_; rintro e w' ⟨rfl, rfl⟩; clear hh)
            | (go_at_call 21; have hh := Q2; clear Q2; refine (clo_is D2.out hh.out).mono ?_; rintro e w' ⟨rfl, rfl⟩; clear hh)
            | (go_at_call 21; have hh := Q3; clear Q3; refine (clo_is D3.out hh.out).mono ?_; rintro e w' ⟨rfl, rfl⟩; clear hh)
            | (go_at_call 21; have hh := Q4; clear Q4; refine (clo_is D4.out hh.out).mono ?_; rintro e w' ⟨rfl, rfl⟩; clear hh)
            | (go_at_call 21; have hh := Q5; clear Q5; refine (clo_is D5.out hh.out).mono ?_; rintro e w' ⟨rfl, rfl⟩; clear hh))
          go_ret
          exact ⟨rfl, H5.out.bel⟩
        · skip
          cases d5
          · clear hno
            go_enter Try.func8, Try.ntmps8
            go_wp2_with (first
              | (go_at_call 17; have hh := H0; clear H0; refine (between_any 1 1099511627776 _).mono ?_; rintro e w1 ⟨p1, q1, rfl, hq, hb⟩; have H1 := hidOf (hh.out.grow hb); clear hh; have Q1 := hidOf hq; clear hb hq)
              | (go_at_call 17; have hh := H1; clear H1; refine (between_any 1 3 _).mono ?_; rintro e w2 ⟨p2, q2, rfl, hq, hb⟩; have H2 := hidOf (hh.out.grow hb); clear hh; have Q2 := hidOf hq; replace Q1 := hidOf (Q1.out.grow hb); clear hb hq)
              | (go_at_call 17; have hh := H2; clear H2; refine (between_any 1 100 _).mono ?_; rintro e w3 ⟨p3, q3, rfl, hq, hb⟩; have H3 := hidOf (hh.out.grow hb); clear hh; have Q3 := hidOf hq; replace Q1 := hidOf (Q1.out.grow hb); replace Q2 := hidOf (Q2.out.grow hb); clear hb hq)
              | (go_at_call 17; have hh := H3; clear H3; refine (between_any 1 8 _).mono ?_; rintro e w4 ⟨p4, q4, rfl, hq, hb⟩; have H4 := hidOf (hh.out.grow hb); clear hh; have Q4 := hidOf hq; replace Q1 := hidOf (Q1.out.grow hb); replace Q2 := hidOf (Q2.out.grow hb); replace Q3 := hidOf (Q3.out.grow hb); clear hb hq)
              | (go_at_call 17; have hh := H4; clear H4; refine (between_any 1 2 _).mono ?_; rintro e w5 ⟨p5, q5, rfl, hq, hb⟩; have H5 := hidOf (hh.out.grow hb); clear hh; have Q5 := hidOf hq; replace Q1 := hidOf (Q1.out.grow hb); replace Q2 := hidOf (Q2.out.grow hb); replace Q3 := hidOf (Q3.out.grow hb); replace Q4 := hidOf (Q4.out.grow hb); clear hb hq; obtain ⟨c0, c1, c2, c3, c4⟩ := H5.out.cells; have lj := heap_lt H5.out.j)
              | (go_at_call 21; have hh := Q1; clear Q1; refine (clo_is D1.out hh.out).mono ?_; rintro e w' ⟨rfl, rfl⟩; clear hh)
              | (go_at_call 21; have hh := Q2; clear Q2; refine (clo_is D2.out hh.out).mono ?_; rintro e w' ⟨rfl, rfl⟩; clear hh)
              | (go_at_call 21; have hh := Q3; clear Q3; refine (clo_is D3.out hh.out).mono ?_; rintro e w' ⟨rfl, rfl⟩; clear hh)
              | (go_at_call 21; have hh := Q4; clear Q4; refine (clo_is D4.out hh.out).mono ?_; rintro e w' ⟨rfl, rfl⟩; clear hh)
              | (go_at_call 21; have hh := Q5; clear Q5; refine (clo_is D5.out hh.out).mono ?_; rintro e w' ⟨rfl, rfl⟩; clear hh))
            go_ret
            exact ⟨rfl, H5.out.bel⟩
          · simp at hno

theorem errJ_true : errJ true = 0 := rfl
theorem errJ_false : errJ false = 30 := rfl
theorem all_no {L : List Gp} {f : Gp → Bool} {k : Nat} (hk : k < L.length) (h : f (gt L k) = false) : L.all f = false := by
  rw [List.all_eq_false]
  exact ⟨_, gt_mem hk, by simp [h]⟩
theorem all_yes {L : List Gp} {f : Gp → Bool} (h : ∀ j, j < L.length → f (gt L j) = true) : L.all f = true := by
  rw [List.all_eq_true]
  intro x hx
  obtain ⟨i, hi, rfl⟩ := List.getElem_of_mem hx
  have := h i hi
  have e : gt L i = L[i] := by simp [gt, hi]
  rwa [e] at this
set_option maxHeartbeats 4000000 in
theorem job_tail (id ty pr pa ve : Int) (st : Bool) (a : Option Addr) (cap : Nat) (L : List Gp) (w : World) (hg : Grs w a L) (D1 : Hid (inB 1 1099511627776 id = true)) (D2 : Hid (inB 1 3 ty = true)) (D3 : Hid (inB 1 100 pr = true)) (D4 : Hid (inB 1 8 pa = true)) (D5 : Hid (inB 1 2 (L.length : Int) = true)) :
    Calls Try.prog 8 #[.agg #[.int .i64 id, .int .i64 ty, .int .i64 pr, .int .i64 pa, .slice a L.length cap, .int .i64 ve, .bool st]] w fun e w' => e = .returned (.int .i64 (errJ (L.all (grpB ty)))) ∧ Below w.heap.size w w' := by
  have H0 := hidOf (JbS.begin w #[.int .i64 id, .int .i64 ty, .int .i64 pr, .int .i64 pa, .slice a L.length cap, .int .i64 ve, .bool st] a L hg)
  obtain ⟨_, hl2⟩ := inB_true.1 D5.out
  clear hg
  go_enter Try.func8, Try.ntmps8
  go_wp2_with (first
      | (go_at_call 17; have hh := H0; clear H0; refine (between_any 1 1099511627776 _).mono ?_; rintro e w1 ⟨p1, q1, rfl, hq, hb⟩; have H1 := hidOf (hh.out.grow hb); clear hh; have Q1 := hidOf hq; clear hb hq)
      | (go_at_call 17; have hh := H1; clear H1; refine (between_any 1 3 _).mono ?_; rintro e w2 ⟨p2, q2, rfl, hq, hb⟩; have H2 := hidOf (hh.out.grow hb); clear hh; have Q2 := hidOf hq; replace Q1 := hidOf (Q1.out.grow hb); clear hb hq)
      | (go_at_call 17; have hh := H2; clear H2; refine (between_any 1 100 _).mono ?_; rintro e w3 ⟨p3, q3, rfl, hq, hb⟩; have H3 := hidOf (hh.out.grow hb); clear hh; have Q3 := hidOf hq; replace Q1 := hidOf (Q1.out.grow hb); replace Q2 := hidOf (Q2.out.grow hb); clear hb hq)
      | (go_at_call 17; have hh := H3; clear H3; refine (between_any 1 8 _).mono ?_; rintro e w4 ⟨p4, q4, rfl, hq, hb⟩; have H4 := hidOf (hh.out.grow hb); clear hh; have Q4 := hidOf hq; replace Q1 := hidOf (Q1.out.grow hb); replace Q2 := hidOf (Q2.out.grow hb); replace Q3 := hidOf (Q3.out.grow hb); clear hb hq)
      | (go_at_call 17; have hh := H4; clear H4; refine (between_any 1 2 _).mono ?_; rintro e w5 ⟨p5, q5, rfl, hq, hb⟩; have H5 := hidOf (hh.out.grow hb); clear hh; have Q5 := hidOf hq; replace Q1 := hidOf (Q1.out.grow hb); replace Q2 := hidOf (Q2.out.grow hb); replace Q3 := hidOf (Q3.out.grow hb); replace Q4 := hidOf (Q4.out.grow hb); clear hb hq; obtain ⟨c0, c1, c2, c3, c4⟩ := H5.out.cells; have lj := heap_lt H5.out.j)
      | (go_at_call 21; have hh := Q1; clear Q1; refine (clo_is D1.out hh.out).mono ?_; rintro e w' ⟨rfl, rfl⟩; clear hh)
      | (go_at_call 21; have hh := Q2; clear Q2; refine (clo_is D2.out hh.out).mono ?_; rintro e w' ⟨rfl, rfl⟩; clear hh)
      | (go_at_call 21; have hh := Q3; clear Q3; refine (clo_is D3.out hh.out).mono ?_; rintro e w' ⟨rfl, rfl⟩; clear hh)
      | (go_at_call 21; have hh := Q4; clear Q4; refine (clo_is D4.out hh.out).mono ?_; rintro e w' ⟨rfl, rfl⟩; clear hh)
      | (go_at_call 21; have hh := Q5; clear Q5; refine (clo_is D5.out hh.out).mono ?_; rintro e w' ⟨rfl, rfl⟩; clear hh)
      | (go_at_call 18; refine (countsOf_any ty _).mono ?_; rintro e w6 ⟨p6, q6, rfl, hq, hb⟩; have H6 := hidOf (H5.out.grow hb); have Q6 := hidOf hq; clear hb hq c0 c1 c2 c3 c4 lj; obtain ⟨c0, c1, c2, c3, c4⟩ := H6.out.cells; have lj := heap_lt H6.out.j)
      | (go_at_call 17; refine (between_any 0 1099511627776 _).mono ?_; rintro e w7 ⟨p7, q7, rfl, hq, hb⟩; have H7 := hidOf (H6.out.grow hb); have Q7 := hidOf hq; replace Q6 := hidOf (Q6.out.grow hb); clear hb hq c0 c1 c2 c3 c4 lj; obtain ⟨c0, c1, c2, c3, c4⟩ := H7.out.cells; have lj := heap_lt H7.out.j))
  go_loopw [58] (fun i wr => ∃ k : Nat, i = .int .i64 (k : Int) ∧ k ≤ L.length ∧ Hid ((∀ j, j < k → grpB ty (gt L j) = true) ∧ JbS w wr #[.int .i64 id, .int .i64 ty, .int .i64 pr, .int .i64 pa, .slice a L.length cap, .int .i64 ve, .bool st] a L ∧ Btw wr p6 q6 (loN ty) (hiN ty) ∧ Btw wr p7 q7 0 1099511627776)) (fun i _ => L.length - (intOf i).toNat)
  case atStart => exact ⟨0, rfl, Nat.zero_le _, hidOf ⟨fun j hj => by omega, H7.out, Q6.out, Q7.out⟩⟩
  case round =>
    clear H5 H6 H7 Q6 Q7 c0 c1 c2 c3 c4 lj
    obtain ⟨k, rfl, hk, H⟩ := hrel
    by_cases hlt : k < L.length
    · have hltz : (k : Int) < (L.length : Int) := by omega
      obtain ⟨b, off, hab, hbl, g0, g1, g2⟩ := H.out.2.1.g.at k hlt
      subst hab
      obtain ⟨g, hge⟩ : ∃ g, g = gt L k := ⟨_, rfl⟩
      rw [← hge] at g0 g1 g2
      have HG := hidOf hge
      clear hge
      cases h1 : inB (loN ty) (hiN ty) g.n with
      | false =>
        have D6 := hidOf h1
        clear h1
        go_wp2_with (go_at_call 21; refine (clo_is D6.out (H.out.2.2.1.grow (below1 _ _))).mono ?_; rintro e w2 ⟨rfl, rfl⟩)
        go_ret
        refine ⟨?_, (H.out.2.1.grow (below1 _ _)).bel⟩
        rw [all_no hlt (by rw [← HG.out]; unfold grpB; rw [D6.out]; rfl)]
        rfl
      | true =>
        have D6 := hidOf h1
        clear h1
        cases h2 : (inB 0 1099511627776 g.c && inB 0 1099511627776 g.m) with
        | false =>
          have D7 := hidOf h2
          clear h2
          go_wp2_with (first
            | (go_at_call 21; refine (clo_is D6.out (H.out.2.2.1.grow (below1 _ _))).mono ?_; rintro e w2 ⟨rfl, rfl⟩)
            | (go_at_call 19; refine (both_is D7.out (H.out.2.2.2.grow (below1 _ _))).mono ?_; rintro e w3 ⟨rfl, hb3⟩))
          go_ret
          refine ⟨?_, ((H.out.2.1.grow (below1 _ _)).grow hb3).bel⟩
          rw [all_no hlt (by rw [← HG.out]; unfold grpB; rw [D6.out, D7.out]; rfl)]
          rfl
        | true =>
          have D7 := hidOf h2
          clear h2
          go_wp2_with (first
            | (go_at_call 21; refine (clo_is D6.out (H.out.2.2.1.grow (below1 _ _))).mono ?_; rintro e w2 ⟨rfl, rfl⟩)
            | (go_at_call 19; refine (both_is D7.out (H.out.2.2.2.grow (below1 _ _))).mono ?_; rintro e w3 ⟨rfl, hb3⟩; have HB3 := hidOf hb3; clear hb3))
          go_roundw
          case rel =>
            refine ⟨k + 1, by go_num, by omega, hidOf ⟨fun j hj => ?_, (H.out.2.1.grow (below1 _ _)).grow HB3.out, (H.out.2.2.1.grow (below1 _ _)).grow HB3.out, (H.out.2.2.2.grow (below1 _ _)).grow HB3.out⟩⟩
            by_cases hjk : j < k
            · exact H.out.1 j hjk
            · have : j = k := by omega
              subst this
              rw [← HG.out]
              unfold grpB
              rw [D6.out, D7.out]
              rfl
          case measure => simp [intOf]; omega
    · have hltz : ¬ (k : Int) < (L.length : Int) := by omega
      go_wp2
      go_ret
      refine ⟨?_, H.out.2.1.bel⟩
      rw [all_yes (fun j hj => H.out.1 j (by omega))]
      rfl
theorem job_any (id ty pr pa ve : Int) (st : Bool) (a : Option Addr) (cap : Nat) (L : List Gp) (w : World) (hg : Grs w a L) :
    Calls Try.prog 8 #[.agg #[.int .i64 id, .int .i64 ty, .int .i64 pr, .int .i64 pa, .slice a L.length cap, .int .i64 ve, .bool st]] w fun e w' => e = .returned (.int .i64 (errJ (jobB id ty pr pa L))) ∧ Below w.heap.size w w' := by
  cases h : (inB 1 1099511627776 id && (inB 1 3 ty && (inB 1 100 pr && (inB 1 8 pa && inB 1 2 (L.length : Int))))) with
  | false =>
    have e : jobB id ty pr pa L = false := by
      unfold jobB
      cases e1 : inB 1 1099511627776 id <;> cases e2 : inB 1 3 ty <;> cases e3 : inB 1 100 pr <;> cases e4 : inB 1 8 pa <;> cases e5 : inB 1 2 (L.length : Int) <;> simp_all
    rw [e]
    exact job_head _ _ _ _ _ id ty pr pa ve st a cap L w hg (hidOf rfl) (hidOf rfl) (hidOf rfl) (hidOf rfl) (hidOf rfl) h
  | true =>
    simp only [Bool.and_eq_true] at h
    obtain ⟨h1, h2, h3, h4, h5⟩ := h
    have e : jobB id ty pr pa L = L.all (grpB ty) := by
      unfold jobB
      rw [h1, h2, h3, h4, h5]
      rfl
    rw [e]
    exact job_tail id ty pr pa ve st a cap L w hg (hidOf h1) (hidOf h2) (hidOf h3) (hidOf h4) (hidOf h5)
end Go.Proofs.Ytnkdchajgpkmpaa
