/- What stands while the law SecondKeeps does things: the space, and the list of what was stored last. -/
import Derived.Test.YtapjeilfkpfllaaDoorSLs
namespace Go.Proofs.YtapjeilfkpfllaaDoor
set_option maxRecDepth 1000000
open Go.ChangeShapes Go.WideShapes Go.ChangeAt Go.RowKit
open Wd (Ob okO encO refsO ObjAt In64 I64)

structure KeAt (c : Sc) (W : World) (k m : Nat) (L : List Ent) (os : List Ob) (xs : List Value) (v : Value) (wr : World) : Prop where
  sec : SecAt wr c 400 k m L
  last : LastX c wr v os xs
  len : os.length = m
  kp : KpOk os L
  below : Below W.heap.size W wr
  lo : W.heap.size ≤ c.s.lo
def KeInv (c : Sc) (W : World) (k : Nat) (v : Value) (wr : World) : Prop := ∃ m L os xs, KeAt c W k m L os xs v wr
theorem lo_q {c : Sc} {w : World} {n u m : Nat} {L : List Ent} (h : SecAt w c n u m L) : c.s.lo ≤ c.q := by have := h.ord; have := h.sp.ord; omega
theorem KeAt.same {c : Sc} {W : World} {k k' m : Nat} {L L' : List Ent} {os : List Ob} {xs : List Value} {v : Value} {wr w' : World} (h : KeAt c W k m L os xs v wr) (s : SecAt w' c 400 k' m L') (o : Only c.F wr w') (hs : ∀ e ∈ L', e ∈ L) : KeAt c W k' m L' os xs v w' :=
  ⟨s, h.last.only o (fun _ h => h), h.len, h.kp.sub hs, h.below.trans (o.below (fun i hi hf => by have := hf.1; have := h.lo; omega) h.below.size), h.lo⟩
theorem KeAt.fresh {c : Sc} {W : World} {k m : Nat} {L : List Ent} {os : List Ob} {xs : List Value} {v : Value} {wr w' : World} (h : KeAt c W k m L os xs v wr) (b : Below wr.heap.size wr w') : KeAt c W k m L os xs v w' :=
  ⟨h.sec.fresh b, h.last.fresh b, h.len, h.kp, h.below.trans (b.mono h.below.size), h.lo⟩
theorem KeAt.mono {c : Sc} {W : World} {k k' m : Nat} {L : List Ent} {os : List Ob} {xs : List Value} {v : Value} {wr : World} (h : KeAt c W k m L os xs v wr) (hk : k ≤ k') : KeAt c W k' m L os xs v wr :=
  ⟨h.sec.mono hk, h.last, h.len, h.kp, h.below, h.lo⟩
theorem KeAt.push {c : Sc} {W : World} {k k' m : Nat} {L : List Ent} {os : List Ob} {xs : List Value} {v v' : Value} {wr w3 w4 w5 : World} {o : Ob} {a : Nat} {a1 a2 : Option Addr} {c1 c2 : Nat} {ob : Obj} (h : KeAt c W k m L os xs v wr)
    (s3 : SecAt w3 c 400 k' (m + 1) (L ++ [⟨m + 1, o, a⟩])) (o3 : Only c.F wr w3)
    (oi : ObjIn (w3.heap.size ≤ ·) w4 (.agg #[.int .i64 o.c, .int .i64 o.k, .slice a1 o.w.length c1, .slice a2 o.b.length c2]) o) (b4 : Below w3.heap.size w3 w4)
    (own : w5.ownsRow (c.q + 1) 33 4 v' (os.length + 1) (xs ++ [.int .i64 o.c, .int .i64 o.k, .slice a1 o.w.length c1, .slice a2 o.b.length c2])) (hgr : (w4.alloc ob).grownBy w5 v.ownBlock) (hat : v'.ownBlock = v.ownBlock ∨ v'.ownBlock = some (w4.alloc ob).heap.size) (hok : okO o = true) :
    KeInv c W k' v' w5 := by
  have l3 := h.last.only o3 (fun _ h => h)
  have B3 : Below W.heap.size W w3 := h.below.trans (o3.below (fun i hi hf => by have := hf.1; have := h.lo; omega) h.below.size)
  have BA : Below w4.heap.size w4 (w4.alloc ob) := (Below.refl _ _).alloc (Nat.le_refl _) _
  have B4 : Below w3.heap.size w3 (w4.alloc ob) := b4.trans (BA.mono b4.size)
  have on : Only (fun b => v.ownBlock = some b) (w4.alloc ob) w5 := Only.grown (Only.refl _ _) hgr (fun k hk => .inl hk)
  have l4 := l3.fresh B4
  have hlq := lo_q s3
  have hl : m = os.length := h.len.symm
  subst hl
  refine ⟨os.length + 1, _, os ++ [o], xs ++ [.int .i64 o.c, .int .i64 o.k, .slice a1 o.w.length c1, .slice a2 o.b.length c2], (s3.fresh B4).only on (fun k hk e => by have := (l4.own.lt k e).1; have := hk.2; omega) (fun e => by have := (l4.own.lt 0 e).1; omega), ?_, List.length_append, h.kp.make o a, ?_, h.lo⟩
  · refine l4.push own hgr hat ((oi.fresh BA).kind (fun b _ hb => ⟨F_lt s3 hb, fun e => ?_⟩)) hok
    have := (l3.own.lt b e).2
    omega
  · exact (B3.trans (B4.mono B3.size)).trans (on.below (fun i hi e => by have := (l4.own.lt i e).1; have := h.lo; omega) (Nat.le_trans B3.size B4.size))
theorem KeAt.put {c : Sc} {W : World} {k k' : Nat} {L : List Ent} {os : List Ob} {xs : List Value} {g cap : Nat} {wr w3 w4 : World} {x : Ent} {o : Ob} {a : Nat} {a1 a2 : Option Addr} {c1 c2 : Nat} (h : KeAt c W k os.length L os xs (.slice (some ⟨g, 0, none⟩) os.length cap) wr) (hx : x ∈ L)
    (s3 : SecAt w3 c 400 k' os.length (setE L x.id o a)) (o3 : Only c.F wr w3)
    (oi : ObjIn (w3.heap.size ≤ ·) w4 (.agg #[.int .i64 o.c, .int .i64 o.k, .slice a1 o.w.length c1, .slice a2 o.b.length c2]) o) (b4 : Below w3.heap.size w3 w4) (hok : okO o = true) (j : Nat) (hj : j = x.id - 1) :
    KeInv c W k' (.slice (some ⟨g, 0, none⟩) os.length cap) ((((w4.setCell ⟨g, j * 4, none⟩ (.int .i64 o.c)).setCell ⟨g, j * 4 + 1, none⟩ (.int .i64 o.k)).setCell ⟨g, j * 4 + 2, none⟩ (.slice a1 o.w.length c1)).setCell ⟨g, j * 4 + 3, none⟩ (.slice a2 o.b.length c2)) := by
  subst hj
  have l3 := h.last.only o3 (fun _ h => h)
  have B3 : Below W.heap.size W w3 := h.below.trans (o3.below (fun i hi hf => by have := hf.1; have := h.lo; omega) h.below.size)
  have l4 := l3.fresh b4
  have hlq := lo_q s3
  obtain ⟨g1, g2⟩ := h.kp x hx
  have hlt : x.id - 1 < os.length := (List.getElem?_eq_some_iff.1 g2).1
  have hg := l4.own.lt g rfl
  have hg3 := l3.own.lt g rfl
  obtain ⟨xs', hp⟩ := l4.put (j := x.id - 1) (o := o) (a1 := a1) (a2 := a2) (c1 := c1) (c2 := c2) hlt (oi.kind (fun b _ hb => ⟨F_lt s3 hb, fun e => by have e' : g = b := Option.some.inj e; have hb' : w3.heap.size ≤ b := hb; have := hg3.2; omega⟩)) hok
  have on := put_row w4 g ((x.id - 1) * 4) ((x.id - 1) * 4 + 1) ((x.id - 1) * 4 + 2) ((x.id - 1) * 4 + 3) (.int .i64 o.c) (.int .i64 o.k) (.slice a1 o.w.length c1) (.slice a2 o.b.length c2)
  rw [List.length_set] at hp
  exact ⟨os.length, _, os.set (x.id - 1) o, xs', (s3.fresh b4).only on (fun k hk (e : k = g) => by have := hk.2; have := hg.1; omega) (fun (e : (0 : Nat) = g) => by have := hg.1; omega), hp, List.length_set, h.kp.store hx o a, (B3.trans (b4.mono B3.size)).trans (on.below (fun i hi (e : i = g) => by have := h.lo; have := hg.1; omega) (Nat.le_trans B3.size b4.size)), h.lo⟩
end Go.Proofs.YtapjeilfkpfllaaDoor
