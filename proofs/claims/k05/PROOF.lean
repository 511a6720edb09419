import PyProof.Rows.All
import Wide.All
import OpenK.AllK
import Wide.FinOn
import PyProof.EqAt
import PyProof.EqKinds
import PyProof.TupleCall
import PyProof.ReprRoads
import HandS.Base
import HandS.Call
import HandS.List
import HandS.Comp
import HandS.Ends
import HandS.Dict
import HandS.Iter
import HandS.Text
import HandS.Words
import HandS.Exc
import HandS.TupAny
import HandS.IsInst
import HandS.Zip
import HandS.More
import PyProof.FitsInt
import PyProof.StrLawsRepr
import PyProof.StrBlockL
import HandS.Style
import KE.KRevSl
import HandS.ExcInit
import HandS.WordsExc
import HandS.ExcValue
import HandS.ExcIs
import KE.KIsAll
import KE.KTryMore
import HandS.ExcField
import KE.KExcInit
import PySem.Challenge.RW_readsfrom_k05_refusals_apart
import KE.KExcLine
set_option Elab.async false
set_option linter.all false
set_option maxRecDepth 100000
set_option maxHeartbeats 2000000
/-! Data over the hand layer: what a piece of a program does to data, its heap hidden. -/
namespace Kp
open PySem PySem.Spec PyProof.Rows L2
/-! ### worlds -/
/-- all that H tracks stands in H' as it was -/
def Ex (H H' : Hp) : Prop := ∀ p u, H p = some u → H' p = some u
theorem Ex.refl (H : Hp) : Ex H H := fun _ _ => id
theorem Ex.trans {H G F : Hp} (e1 : Ex H G) (e2 : Ex G F) : Ex H F := fun p u q => e2 p u (e1 p u q)
theorem Ex.new {H : Hp} {p : Addr} {o : HO} (h : H p = none) : Ex H (upd H p o) := fun a u e => (upd_ne (ne_of_none e h)).trans e
/-- g: what data may lean on; h: what stands -/
structure Wl where
  g : Hp
  h : Hp
  sub : Ex g h
structure Le (w w' : Wl) : Prop where
  g : Ex w.g w'.g
  h : Ex w.h w'.h
  hid : ∀ b, w.h b ≠ none → w.g b = none → w'.g b = none
theorem Le.refl (w : Wl) : Le w w := ⟨Ex.refl _, Ex.refl _, fun _ _ h => h⟩
theorem Le.trans {w w1 w2 : Wl} (a : Le w w1) (b : Le w1 w2) : Le w w2 := ⟨a.g.trans b.g, a.h.trans b.h, fun x h1 h2 => b.hid x (fun q => h1 (by
  cases e : w.h x with
  | none => rfl
  | some o =>
    have := a.h x o e
    rw [this] at q
    cases q)) (a.hid x h1 h2)⟩
theorem Wl.gfree (w : Wl) {p : Addr} (h : w.h p = none) : w.g p = none := by
  cases e : w.g p with
  | none => rfl
  | some o =>
    have := w.sub p o e
    rw [this] at h
    cases h
/-- a new object, data may lean on it -/
def Wl.put (w : Wl) (p : Addr) (o : HO) : Wl := ⟨upd w.g p o, upd w.h p o, fun a u e => by
  by_cases q : a = p
  · subst q
    rw [upd_same] at e ⊢
    exact e
  · rw [upd_ne q] at e ⊢
    exact w.sub a u e⟩
theorem Le.put {w : Wl} {p : Addr} {o : HO} (h : w.h p = none) : Le w (w.put p o) := ⟨Ex.new (w.gfree h), Ex.new h, fun b h1 h2 => by
  have q : b ≠ p := fun e => h1 (by rw [e]; exact h)
  show upd w.g p o b = none
  rw [upd_ne q]
  exact h2⟩
/-- a new object, hidden from data -/
def Wl.own (w : Wl) (p : Addr) (o : HO) (h : w.g p = none) : Wl := ⟨w.g, upd w.h p o, fun a u e => (upd_ne (ne_of_none e h)).trans (w.sub a u e)⟩
theorem Le.own {w : Wl} {p : Addr} {o : HO} (h : w.h p = none) : Le w (w.own p o (w.gfree h)) := ⟨Ex.refl _, Ex.new h, fun _ _ h2 => h2⟩

/-! ### data -/
mutual
inductive Dd (K : PySem.W.Frag) (H : Hp) : V → PyData → Prop
  | non : Dd K H .non .none
  | bl (b : Bool) : Dd K H (.bl b) (.bool b)
  | int (i : Int) : Dd K H (.int i) (.int i)
  | str (x : Str) : Dd K H (.str x) (.str x)
  | lst {a : Addr} {xs : List V} {ds : List PyData} : H a = some (.lst xs) → DdA K H xs ds → Dd K H (.ref a) (.list ds)
  | tup {a : Addr} {xs : List V} {ds : List PyData} : SqT K H a xs → DdA K H xs ds → Dd K H (.ref a) (.tuple ds)
  | dic {a : Addr} : H a = some (.dK []) → Dd K H (.ref a) (.dict [])
inductive DdA (K : PySem.W.Frag) (H : Hp) : List V → List PyData → Prop
  | nil : DdA K H [] []
  | cons {v : V} {vs : List V} {d : PyData} {ds : List PyData} : Dd K H v d → DdA K H vs ds → DdA K H (v :: vs) (d :: ds)
end
section
variable {K : PySem.W.Frag} {H H' : Hp}
theorem ex_rd {a : Addr} {u : HO} (e : Ex H H') (h : Rd H a u) : Rd H' a u := h.elim (fun h => .inl (e a _ h)) fun ⟨o, h⟩ => .inr ⟨o, e a _ h⟩
theorem ex_l {a : Addr} {xs : List V} (e : Ex H H') (h : SqL K H a xs) : SqL K H' a xs := h.elim (fun h => .inl (ex_rd e h)) .inr
theorem ex_t {a : Addr} {xs : List V} (e : Ex H H') (h : SqT K H a xs) : SqT K H' a xs := h.elim (fun h => .inl (ex_rd e h)) .inr
mutual
theorem Dd.mono (e : Ex H H') : ∀ {d : PyData} {v : V}, Dd K H v d → Dd K H' v d
  | .none, _, .non => .non
  | .bool _, _, .bl b => .bl b
  | .int _, _, .int i => .int i
  | .str _, _, .str x => .str x
  | .list _, _, .lst h a => .lst (e _ _ h) (DdA.mono e a)
  | .tuple _, _, .tup h a => .tup (ex_t e h) (DdA.mono e a)
  | .dict _, _, .dic h => .dic (e _ _ h)
theorem DdA.mono (e : Ex H H') : ∀ {ds : List PyData} {vs : List V}, DdA K H vs ds → DdA K H' vs ds
  | [], _, .nil => .nil
  | _ :: _, _, .cons a b => .cons (Dd.mono e a) (DdA.mono e b)
end
theorem DdA.length : ∀ {vs : List V} {ds : List PyData}, DdA K H vs ds → vs.length = ds.length
  | _, _, .nil => rfl
  | _, _, .cons _ t => congrArg (· + 1) (DdA.length t)
theorem DdA.append : ∀ {vs us : List V} {ds es : List PyData}, DdA K H vs ds → DdA K H us es → DdA K H (vs ++ us) (ds ++ es)
  | _, _, _, _, .nil, h => h
  | _, _, _, _, .cons a t, h => .cons a (DdA.append t h)
theorem DdA.get : ∀ {vs : List V} {ds : List PyData} {i : Nat} {d : PyData}, DdA K H vs ds → ds[i]? = some d → ∃ v, vs[i]? = some v ∧ Dd K H v d
  | _, _, _, _, .nil, q => by simp at q
  | _, _, 0, _, .cons a _, e => ⟨_, rfl, by rw [← Option.some.inj (show some _ = some _ from e)]; exact a⟩
  | _, _, i + 1, d, .cons _ t, e => DdA.get (i := i) t (by simpa using e)
theorem DdA.getV : ∀ {vs : List V} {ds : List PyData} {i : Nat} {v : V}, DdA K H vs ds → vs[i]? = some v → ∃ d, ds[i]? = some d ∧ Dd K H v d
  | _, _, _, _, .nil, q => by simp at q
  | _, _, 0, _, .cons a _, e => ⟨_, rfl, by rw [← Option.some.inj (show some _ = some _ from e)]; exact a⟩
  | _, _, i + 1, d, .cons _ t, e => DdA.getV (i := i) t (by simpa using e)
theorem DdA.take : ∀ {vs : List V} {ds : List PyData} (n : Nat), DdA K H vs ds → DdA K H (vs.take n) (ds.take n)
  | _, _, 0, _ => .nil
  | _, _, _ + 1, .nil => .nil
  | _, _, n + 1, .cons a t => .cons a (DdA.take n t)
theorem DdA.drop : ∀ {vs : List V} {ds : List PyData} (n : Nat), DdA K H vs ds → DdA K H (vs.drop n) (ds.drop n)
  | _, _, 0, h => h
  | _, _, _ + 1, .nil => .nil
  | _, _, n + 1, .cons _ t => DdA.drop n t
theorem DdA.erase : ∀ {vs : List V} {ds : List PyData} (n : Nat), DdA K H vs ds → DdA K H (vs.eraseIdx n) (ds.eraseIdx n)
  | _, _, _, .nil => .nil
  | _, _, 0, .cons _ t => t
  | _, _, n + 1, .cons a t => .cons a (DdA.erase n t)
theorem DdA.rev : ∀ {vs : List V} {ds : List PyData}, DdA K H vs ds → DdA K H vs.reverse ds.reverse
  | _, _, .nil => .nil
  | _, _, .cons a t => by
    simp only [List.reverse_cons]
    exact DdA.append (DdA.rev t) (.cons a .nil)
theorem DdA.strs : ∀ {ys : List Str} {vs : List V}, DdA K H vs (ys.map .str) → vs = ys.map V.str
  | [], _, .nil => rfl
  | _ :: _, _, .cons a t => by
    cases a
    rw [DdA.strs t]
    rfl
theorem DdA.ofStrs : ∀ (ys : List Str), DdA K H (ys.map V.str) (ys.map .str)
  | [] => .nil
  | y :: ys => .cons (.str y) (DdA.ofStrs ys)
theorem DdA.bls : ∀ {ys : List Bool} {vs : List V}, DdA K H vs (ys.map .bool) → vs = ys.map V.bl
  | [], _, .nil => rfl
  | _ :: _, _, .cons a t => by
    cases a
    rw [DdA.bls t]
    rfl
theorem DdA.ofBls : ∀ (ys : List Bool), DdA K H (ys.map V.bl) (ys.map .bool)
  | [] => .nil
  | y :: ys => .cons (.bl y) (DdA.ofBls ys)
theorem DdA.ofInts : ∀ (ys : List Int), DdA K H (ys.map V.int) (ys.map .int)
  | [] => .nil
  | y :: ys => .cons (.int y) (DdA.ofInts ys)
theorem DdA.ints : ∀ {ys : List Int} {vs : List V}, DdA K H vs (ys.map .int) → vs = ys.map V.int
  | [], _, .nil => rfl
  | _ :: _, _, .cons a t => by
    cases a
    rw [DdA.ints t]
    rfl
end

/-! ### abstract values and states -/
/-- PL p: the two ints of a pool, whatever they are within their bounds -/
def PL (p : Addr) : HO := .ext fun h => ∃ x y : Int, (0 ≤ y ∧ y < 2147483647) ∧ ∃ (its : List Value) (n : Nat), Vals [.int x, .int y] its ∧ h.get? p = some { cls := .type "list", data := .seq its.toArray n }
/-- at a: an error of the class cls whose own dict is d -/
def ExK (cls : Value) (d : Option Addr) (a : Addr) : HO := .ext fun h => ∃ (oe : Obj) (vs : Array Value), h.get? a = some oe ∧ Zc cls d oe ∧ oe.data = .fields vs
/-- an error's fields as data -/
def FdA (K : PySem.W.Frag) (H : Hp) (fs : List (Str × V)) (ds : List (Str × PyData)) : Prop := fs.map (·.1) = ds.map (·.1) ∧ DdA K H (fs.map (·.2)) (ds.map (·.2))
theorem FdA.mono {K : PySem.W.Frag} {H H' : Hp} {fs : List (Str × V)} {ds : List (Str × PyData)} (e : Ex H H') (h : FdA K H fs ds) : FdA K H' fs ds := ⟨h.1, h.2.mono e⟩
/-- an error's own dict: none where it has no field -/
def XdO (H : Hp) (fs : List (Str × V)) : Option Addr → Prop
  | some d => H d = some (.xd fs)
  | none => fs = []
theorem XdO.mono {H H' : Hp} {fs : List (Str × V)} {d : Option Addr} (e : Ex H H') (h : XdO H fs d) : XdO H' fs d := by
  cases d with
  | some d => exact e _ _ h
  | none => exact h
inductive AV where
  | dat (d : PyData)
  | pool
  | buf (ds : List PyData)
  | scr (ns : List Int)
  | err (C : Addr) (ds : List (Str × PyData))
/-- v is so in the world w -/
def Av (K : PySem.W.Frag) (w : Wl) (v : V) : AV → Prop
  | .dat d => Dd K w.g v d
  | .pool => ∃ p, v = .ref p ∧ w.g p = some (PL p)
  | .buf ds => ∃ a vs, v = .ref a ∧ w.h a = some (.lst vs) ∧ w.g a = none ∧ DdA K w.g vs ds
  | .scr ns => ∃ a, v = .ref a ∧ SqL K w.g a (ns.map V.int)
  | .err C ds => ∃ (a : Addr) (d : Option Addr) (fs : List (Str × V)), v = .ref a ∧ w.g a = some (ExK (.ref C) d a) ∧ XdO w.g fs d ∧ FdA K w.g fs ds
def AV.plain : AV → Bool
  | .buf _ => false
  | _ => true
inductive AvA (K : PySem.W.Frag) (w : Wl) : List V → List AV → Prop
  | nil : AvA K w [] []
  | cons {v : V} {vs : List V} {a : AV} {as : List AV} : Av K w v a → AvA K w vs as → AvA K w (v :: vs) (a :: as)
abbrev SS := List (Option AV)
/-- the slots hold what ss says; w0: the world at the def's entry; what is hidden is younger -/
structure Sl (K : PySem.W.Frag) (w0 w : Wl) (σ : L2.St) (ss : SS) : Prop where
  le : Le w0 w
  len : σ.length = ss.length
  at_ : ∀ (i : Nat) (a : AV), ss[i]? = some (some a) → ∃ v, σ[i]? = some (some v) ∧ Av K w v a
  ap : ∀ (i j : Nat) (ds es : List PyData) (v : V), i ≠ j → ss[i]? = some (some (AV.buf ds)) → ss[j]? = some (some (AV.buf es)) → σ[i]? = some (some v) → σ[j]? ≠ some (some v)
  fr : ∀ (i : Nat) (ds : List PyData) (p : Addr), ss[i]? = some (some (AV.buf ds)) → σ[i]? = some (some (V.ref p)) → w0.h p = none
section
variable {K : PySem.W.Frag} {w0 w w' : Wl} {σ : L2.St} {ss : SS} {v : V} {a : AV}
theorem Av.mono (e : Le w w') (h : Av K w v a) : Av K w' v a := by
  cases a with
  | dat d => exact Dd.mono e.g h
  | pool =>
    obtain ⟨p, rfl, hp⟩ := h
    exact ⟨p, rfl, e.g _ _ hp⟩
  | buf ds =>
    obtain ⟨a, vs, rfl, h1, h2, h3⟩ := h
    exact ⟨a, vs, rfl, e.h _ _ h1, e.hid a (by rw [h1]; simp) h2, h3.mono e.g⟩
  | scr ns =>
    obtain ⟨a, rfl, h1⟩ := h
    exact ⟨a, rfl, ex_l e.g h1⟩
  | err C ds =>
    obtain ⟨a, d, fs, rfl, h1, h2, h3⟩ := h
    exact ⟨a, d, fs, rfl, e.g _ _ h1, h2.mono e.g, h3.mono e.g⟩
theorem AvA.mono (e : Le w w') : ∀ {vs : List V} {as : List AV}, AvA K w vs as → AvA K w' vs as
  | _, _, .nil => .nil
  | _, _, .cons a t => .cons (a.mono e) (AvA.mono e t)
theorem Sl.mono (e : Le w w') (h : Sl K w0 w σ ss) : Sl K w0 w' σ ss := ⟨h.le.trans e, h.len, fun i a q => let ⟨v, h1, h2⟩ := h.at_ i a q; ⟨v, h1, h2.mono e⟩, h.ap, h.fr⟩
theorem set_lt {α : Type} {l : List α} {i : Nat} {x y : α} (h : (l.set i x)[i]? = some y) : i < l.length := by
  have := (List.getElem?_eq_some_iff.mp h).1
  simpa using this
/-- a slot is stored: no buf -/
theorem Sl.set (h : Sl K w0 w σ ss) (i : Nat) (hp : a.plain = true) (q : Av K w v a) : Sl K w0 w (σ.set i (some v)) (ss.set i (some a)) := by
  have nb : ∀ {j : Nat} {ds : List PyData}, (ss.set i (some a))[j]? = some (some (AV.buf ds)) → i ≠ j := fun {j ds} e z => by
    subst z
    rw [List.getElem?_set_self (set_lt e)] at e
    cases e
    cases hp
  refine ⟨h.le, by rw [List.length_set, List.length_set]; exact h.len, fun j b e => ?_, fun j k ds es u hjk e1 e2 e3 => ?_, fun j ds p e1 e2 => ?_⟩
  · by_cases hj : i = j
    · subst hj
      have hi := set_lt e
      rw [List.getElem?_set_self hi] at e
      cases e
      exact ⟨v, by rw [List.getElem?_set_self (by rw [h.len]; exact hi)], q⟩
    · rw [List.getElem?_set_ne hj] at e
      obtain ⟨u, h1, h2⟩ := h.at_ j b e
      exact ⟨u, by rw [List.getElem?_set_ne hj]; exact h1, h2⟩
  · have n1 := nb e1
    have n2 := nb e2
    rw [List.getElem?_set_ne n1] at e1 e3
    rw [List.getElem?_set_ne n2] at e2 ⊢
    exact h.ap j k ds es u hjk e1 e2 e3
  · have n1 := nb e1
    rw [List.getElem?_set_ne n1] at e1 e2
    exact h.fr j ds p e1 e2
/-- a slot gets a new hidden list -/
theorem Sl.setN {p : Addr} {vs : List V} {ds : List PyData} (h : Sl K w0 w σ ss) (i : Nat) (hn : w.h p = none) (e : Le w w') (h1 : w'.h p = some (.lst vs)) (h2 : w'.g p = none) (h3 : DdA K w'.g vs ds) :
    Sl K w0 w' (σ.set i (some (.ref p))) (ss.set i (some (.buf ds))) := by
  have hm := h.mono e
  have old : ∀ {j : Nat} {es : List PyData}, ss[j]? = some (some (AV.buf es)) → σ[j]? ≠ some (some (V.ref p)) := fun {j es} q z => by
    obtain ⟨v, z1, a, us, z2, z3, _⟩ := h.at_ j _ q
    rw [z1] at z
    cases z
    cases z2
    rw [hn] at z3
    cases z3
  refine ⟨hm.le, by rw [List.length_set, List.length_set]; exact h.len, fun j b q => ?_, fun j k ds1 ds2 u hjk e1 e2 e3 => ?_, fun j ds1 a e1 e2 => ?_⟩
  · by_cases hj : i = j
    · subst hj
      have hi := set_lt q
      rw [List.getElem?_set_self hi] at q
      cases q
      exact ⟨_, by rw [List.getElem?_set_self (by rw [h.len]; exact hi)], p, vs, rfl, h1, h2, h3⟩
    · rw [List.getElem?_set_ne hj] at q
      obtain ⟨u, g1, g2⟩ := hm.at_ j b q
      exact ⟨u, by rw [List.getElem?_set_ne hj]; exact g1, g2⟩
  · by_cases hj : i = j
    · subst hj
      have hi := set_lt e3
      rw [List.getElem?_set_self hi] at e3
      cases e3
      rw [List.getElem?_set_ne hjk] at e2 ⊢
      exact old e2
    · rw [List.getElem?_set_ne hj] at e1 e3
      by_cases hk : i = k
      · subst hk
        have hi := set_lt e2
        rw [List.getElem?_set_self (by rw [h.len]; exact hi)]
        intro z
        cases z
        exact old e1 e3
      · rw [List.getElem?_set_ne hk] at e2 ⊢
        exact h.ap j k ds1 ds2 u hjk e1 e2 e3
  · by_cases hj : i = j
    · subst hj
      have hi := set_lt e2
      rw [List.getElem?_set_self hi] at e2
      cases e2
      cases q : w0.h p with
      | none => rfl
      | some o =>
        have := h.le.h p o q
        rw [hn] at this
        cases this
    · rw [List.getElem?_set_ne hj] at e1 e2
      exact h.fr j ds1 a e1 e2
end
end Kp


namespace Kp
open PySem PySem.Spec PyProof.Rows L2
/-! ### readings over abstract states -/
def teOf (K : PySem.W.Frag) (w0 : Wl) (ss : SS) (R : AV → Prop) : TE := fun σ H Q => ∃ w : Wl, w.h = H ∧ Sl K w0 w σ ss ∧ ∀ v a w', Le w w' → Av K w' v a → R a → Q v w'.h
def ttOf (K : PySem.W.Frag) (w0 : Wl) (ss : SS) (R : Bool → Prop) : TT := fun σ H Q => ∃ w : Wl, w.h = H ∧ Sl K w0 w σ ss ∧ ∀ b w', Le w w' → R b → Q b w'.h
def taOf (K : PySem.W.Frag) (w0 : Wl) (ss : SS) (R : List AV → Prop) : TA := fun σ H Q => ∃ w : Wl, w.h = H ∧ Sl K w0 w σ ss ∧ ∀ vs as w', Le w w' → AvA K w' vs as → R as → Q vs w'.h
/-- a new list, nothing leans on it yet -/
def tnOf (K : PySem.W.Frag) (w0 : Wl) (ss : SS) (R : List PyData → Prop) : TE := fun σ H Q => ∃ w : Wl, w.h = H ∧ Sl K w0 w σ ss ∧
  ∀ p vs ds w', Le w w' → w.h p = none → w'.h p = some (.lst vs) → w'.g p = none → DdA K w'.g vs ds → R ds → Q (.ref p) w'.h
structure AN where
  nx : SS → Prop
  rt : AV → Prop
  bk : SS → Prop := fun _ => False
  ct : SS → Prop := fun _ => False
structure EndsOk (K : PySem.W.Frag) (w0 : Wl) (g0 : Hp) (N : AN) (D : Ends) : Prop where
  nx : ∀ σ' ss' w', Ex g0 w'.g → Sl K w0 w' σ' ss' → N.nx ss' → D.nx σ' w'.h
  rt : ∀ v a w', Ex g0 w'.g → Le w0 w' → Av K w' v a → N.rt a → D.rt v w'.h
  bk : ∀ σ' ss' w', Ex g0 w'.g → Sl K w0 w' σ' ss' → N.bk ss' → D.bk σ' w'.h
  ct : ∀ σ' ss' w', Ex g0 w'.g → Sl K w0 w' σ' ss' → N.ct ss' → D.ct σ' w'.h
theorem EndsOk.mono {K : PySem.W.Frag} {w0 : Wl} {g0 g1 : Hp} {N : AN} {D : Ends} (h : EndsOk K w0 g0 N D) (e : Ex g0 g1) : EndsOk K w0 g1 N D :=
  ⟨fun σ' ss' w' x => h.nx σ' ss' w' (e.trans x), fun v a w' x => h.rt v a w' (e.trans x), fun σ' ss' w' x => h.bk σ' ss' w' (e.trans x), fun σ' ss' w' x => h.ct σ' ss' w' (e.trans x)⟩
def tsOf (K : PySem.W.Frag) (w0 : Wl) (ss : SS) (N : AN) : TS := fun D σ H => ∃ w : Wl, w.h = H ∧ Sl K w0 w σ ss ∧ EndsOk K w0 w.g N D
abbrev KE (X : Cx) (w0 : Wl) (e : Expr) (ss : SS) (R : AV → Prop) : Prop := PE X e (teOf X.K w0 ss R)
abbrev KT (X : Cx) (w0 : Wl) (e : Expr) (ss : SS) (R : Bool → Prop) : Prop := PT X e (ttOf X.K w0 ss R)
abbrev KW (X : Cx) (w0 : Wl) (e : Expr) (ss : SS) (R : Bool → Prop) : Prop := PW X e (ttOf X.K w0 ss R)
abbrev KA (X : Cx) (w0 : Wl) (es : List Expr) (ss : SS) (R : List AV → Prop) : Prop := PA X es (taOf X.K w0 ss R)
abbrev KN (X : Cx) (w0 : Wl) (e : Expr) (ss : SS) (R : List PyData → Prop) : Prop := PE X e (tnOf X.K w0 ss R)
abbrev KS (X : Cx) (w0 : Wl) (s : Stmt) (ss : SS) (N : AN) : Prop := PS X s (tsOf X.K w0 ss N)
abbrev KSs (X : Cx) (w0 : Wl) (s : List Stmt) (ss : SS) (N : AN) : Prop := PSs X s (tsOf X.K w0 ss N)
section
variable {X : Cx}
theorem PE.imp {e : Expr} {t t' : TE} (h : PE X e t) (k : ∀ σ H Q, t' σ H Q → t σ H Q) : PE X e t' := ⟨fun pins s σ H Q I q => h.run pins s σ H Q I (k σ H Q q)⟩
theorem PT.imp {e : Expr} {t t' : TT} (h : PT X e t) (k : ∀ σ H Q, t' σ H Q → t σ H Q) : PT X e t' := ⟨fun pins s σ H Q I q => h.run pins s σ H Q I (k σ H Q q)⟩
theorem PW.imp {e : Expr} {t t' : TT} (h : PW X e t) (k : ∀ σ H Q, t' σ H Q → t σ H Q) : PW X e t' := ⟨fun wh pins s σ H Q I q => h.run wh pins s σ H Q I (k σ H Q q)⟩
theorem PA.imp {e : List Expr} {t t' : TA} (h : PA X e t) (k : ∀ σ H Q, t' σ H Q → t σ H Q) : PA X e t' := ⟨fun pos pins s σ H Q I q => h.run pos pins s σ H Q I (k σ H Q q)⟩
theorem PS.imp {e : Stmt} {t t' : TS} (h : PS X e t) (k : ∀ D σ H, t' D σ H → t D σ H) : PS X e t' := ⟨fun pins s σ H D I q => h.run pins s σ H D I (k D σ H q)⟩
theorem PSs.imp {e : List Stmt} {t t' : TS} (h : PSs X e t) (k : ∀ D σ H, t' D σ H → t D σ H) : PSs X e t' := ⟨fun pins s σ H D I q => h.run pins s σ H D I (k D σ H q)⟩
/-- whatever is shown of it -/
def anE (X : Cx) (w0 : Wl) (e : Expr) (ss : SS) : TE := fun σ H Q => ∃ R, KE X w0 e ss R ∧ teOf X.K w0 ss R σ H Q
def anT (X : Cx) (w0 : Wl) (e : Expr) (ss : SS) : TT := fun σ H Q => ∃ R, KT X w0 e ss R ∧ ttOf X.K w0 ss R σ H Q
def anW (X : Cx) (w0 : Wl) (e : Expr) (ss : SS) : TT := fun σ H Q => ∃ R, KW X w0 e ss R ∧ ttOf X.K w0 ss R σ H Q
def anA (X : Cx) (w0 : Wl) (e : List Expr) (ss : SS) : TA := fun σ H Q => ∃ R, KA X w0 e ss R ∧ taOf X.K w0 ss R σ H Q
def anN (X : Cx) (w0 : Wl) (e : Expr) (ss : SS) : TE := fun σ H Q => ∃ R, KN X w0 e ss R ∧ tnOf X.K w0 ss R σ H Q
def anSs (X : Cx) (w0 : Wl) (e : List Stmt) : TS := fun D σ H => ∃ ss N, KSs X w0 e ss N ∧ tsOf X.K w0 ss N D σ H
variable {w0 : Wl} {ss : SS}
theorem pe_an {e : Expr} : PE X e (anE X w0 e ss) := ⟨fun pins s σ H Q I ⟨R, h, q⟩ => h.run pins s σ H Q I q⟩
theorem pt_an {e : Expr} : PT X e (anT X w0 e ss) := ⟨fun pins s σ H Q I ⟨R, h, q⟩ => h.run pins s σ H Q I q⟩
theorem pw_an {e : Expr} : PW X e (anW X w0 e ss) := ⟨fun wh pins s σ H Q I ⟨R, h, q⟩ => h.run wh pins s σ H Q I q⟩
theorem pa_an {e : List Expr} : PA X e (anA X w0 e ss) := ⟨fun pos pins s σ H Q I ⟨R, h, q⟩ => h.run pos pins s σ H Q I q⟩
theorem pn_an {e : Expr} : PE X e (anN X w0 e ss) := ⟨fun pins s σ H Q I ⟨R, h, q⟩ => h.run pins s σ H Q I q⟩
theorem pss_an {e : List Stmt} : PSs X e (anSs X w0 e) := ⟨fun pins s σ H Q I ⟨_, _, h, q⟩ => h.run pins s σ H Q I q⟩
theorem KE.weak {e : Expr} {R R' : AV → Prop} (h : KE X w0 e ss R) (k : ∀ a, R a → R' a) : KE X w0 e ss R' :=
  PE.imp h fun σ H Q ⟨w, e, hs, q⟩ => ⟨w, e, hs, fun v a w' l x y => q v a w' l x (k a y)⟩
theorem KT.weak {e : Expr} {R R' : Bool → Prop} (h : KT X w0 e ss R) (k : ∀ a, R a → R' a) : KT X w0 e ss R' :=
  PT.imp h fun σ H Q ⟨w, e, hs, q⟩ => ⟨w, e, hs, fun a w' l y => q a w' l (k a y)⟩

/-! ### what a value must be -/
abbrev onDat (a : AV) (P : PyData → Prop) : Prop := match a with | .dat d => P d | _ => False
abbrev onInt (a : AV) (P : Int → Prop) : Prop := match a with | .dat (.int i) => P i | _ => False
abbrev onBool (a : AV) (P : Bool → Prop) : Prop := match a with | .dat (.bool b) => P b | _ => False
def onDats : List AV → (List PyData → Prop) → Prop
  | [], P => P []
  | .dat d :: as, P => onDats as fun ds => P (d :: ds)
  | _ :: _, _ => False
theorem onDat.of {a : AV} {P : PyData → Prop} (h : onDat a P) : ∃ d, a = .dat d ∧ P d := by
  cases a with
  | dat d => exact ⟨d, rfl, h⟩
  | _ => exact h.elim
theorem onInt.of {a : AV} {P : Int → Prop} (h : onInt a P) : ∃ d, a = .dat (.int d) ∧ P d := by
  unfold onInt at h
  split at h
  · exact ⟨_, rfl, h⟩
  · exact h.elim
theorem onBool.of {a : AV} {P : Bool → Prop} (h : onBool a P) : ∃ d, a = .dat (.bool d) ∧ P d := by
  unfold onBool at h
  split at h
  · exact ⟨_, rfl, h⟩
  · exact h.elim
theorem onDats.of : ∀ {as : List AV} {P : List PyData → Prop}, onDats as P → ∃ ds, as = ds.map .dat ∧ P ds
  | [], P, h => ⟨[], rfl, h⟩
  | .dat d :: as, P, h => by
    obtain ⟨ds, e, q⟩ := onDats.of (as := as) h
    exact ⟨d :: ds, by rw [e]; rfl, q⟩
  | .pool :: _, _, h => h.elim
  | .buf _ :: _, _, h => h.elim
  | .scr _ :: _, _, h => h.elim
  | .err _ _ :: _, _, h => h.elim
theorem AvA.dats {K : PySem.W.Frag} {w : Wl} : ∀ {ds : List PyData} {vs : List V}, AvA K w vs (ds.map .dat) → DdA K w.g vs ds
  | [], _, .nil => .nil
  | _ :: _, _, .cons a t => .cons a (AvA.dats t)

/-! ### leaves -/
theorem Le.ofSl {K : PySem.W.Frag} {w : Wl} {σ : L2.St} (h : Sl K w0 w σ ss) : Le w0 w := h.le
theorem k_var (i : Nat) {x : Str} {pos : Pos} {a : AV} {R : AV → Prop} (hN : X.N[i]? = some x) (ha : ss[i]? = some (some a)) (hR : R a)
    (hv : Vis X.env.scope x := by first | exact Or.inl rfl | exact Or.inr (Or.inl rfl) | exact Or.inr (Or.inr rfl)) (hd : (x == ("__debug__" : Str)) = false := by decide)
    (hcd : (x == ("__classdict__" : Str)) = false := by decide) : KE X w0 (.Name x pos) ss R :=
  PE.imp (pe_var hN hv hd hcd) fun σ H Q ⟨w, e, hs, q⟩ => by
    subst e
    obtain ⟨v, h1, h2⟩ := hs.at_ i a ha
    exact ⟨v, h1, q v a w (Le.refl w) h2 hR⟩
theorem k_c {e : Expr} {v : V} {d : PyData} {R : AV → Prop} (h : PE X e (tC v)) (hd : ∀ w : Wl, Dd X.K w.g v d) (hR : R (.dat d)) : KE X w0 e ss R :=
  PE.imp h fun σ H Q ⟨w, e, hs, q⟩ => by
    subst e
    exact q v (.dat d) w (Le.refl w) (hd w) hR
theorem k_int {i : Int} {j : Nat} {pos : Pos} {R : AV → Prop} (hR : R (.dat (.int i))) : KE X w0 (.Constant (.int i) j pos) ss R := k_c pe_int (fun _ => .int i) hR
theorem k_bl {i : Bool} {j : Nat} {pos : Pos} {R : AV → Prop} (hR : R (.dat (.bool i))) : KE X w0 (.Constant (.bool i) j pos) ss R := k_c pe_bl (fun _ => .bl i) hR
theorem k_str {i : Str} {j : Nat} {pos : Pos} {R : AV → Prop} (hR : R (.dat (.str i))) : KE X w0 (.Constant (.str i) j pos) ss R := k_c pe_str (fun _ => .str i) hR
theorem k_non {j : Nat} {pos : Pos} {R : AV → Prop} (hR : R (.dat .none)) : KE X w0 (.Constant .none j pos) ss R := k_c pe_non (fun _ => .non) hR
theorem ka_nil {R : List AV → Prop} (hR : R []) : KA X w0 [] ss R :=
  PA.imp pa_nil fun σ H Q ⟨w, e, hs, q⟩ => by
    subst e
    exact q [] [] w (Le.refl w) .nil hR
theorem ka_cons {e : Expr} {es : List Expr} {R : List AV → Prop} (h : KE X w0 e ss fun a => KA X w0 es ss fun as => R (a :: as)) (hs : starEach (e :: es) X.env = (false, eval e X.env) :: starEach es X.env := by rfl) : KA X w0 (e :: es) ss R :=
  PA.imp (pa_cons h pa_an hs) fun σ H Q ⟨w, ew, hsl, q⟩ => by
    refine ⟨w, ew, hsl, fun v a w1 l1 hv hk => ⟨_, hk, w1, rfl, hsl.mono l1, fun vs as w2 l2 hvs hr => ?_⟩⟩
    exact q (v :: vs) (a :: as) w2 (l1.trans l2) (.cons (hv.mono l2) hvs) hr

/-! ### operations by values -/
def DR (K : PySem.W.Frag) (r : R2) (x y : AV) (R : AV → Prop) : Prop := ∀ vx vy w Q, Av K w vx x → Av K w vy y → (∀ v a w', Le w w' → Av K w' v a → R a → Q v w'.h) → r vx vy w.h Q
def DU (K : PySem.W.Frag) (r : V → Hp → VK → Prop) (x : AV) (R : AV → Prop) : Prop := ∀ vx w Q, Av K w vx x → (∀ v a w', Le w w' → Av K w' v a → R a → Q v w'.h) → r vx w.h Q
def DC (K : PySem.W.Frag) (r : List V → Hp → VK → Prop) (xs : List AV) (R : AV → Prop) : Prop := ∀ vs w Q, AvA K w vs xs → (∀ v a w', Le w w' → Av K w' v a → R a → Q v w'.h) → r vs w.h Q
theorem op2 {r : R2} {a b : Expr} {R : AV → Prop} {σ : L2.St} {H : Hp} {Q : VK} (h : teOf X.K w0 ss (fun x => KE X w0 b ss fun y => DR X.K r x y R) σ H (fun _ _ => True) ∨ True) : True := trivial
theorem k_opG {e a b : Expr} {r : R2} {R : AV → Prop} (hp : PE X e (tOp r (teOf X.K w0 ss fun x => KE X w0 b ss fun y => DR X.K r x y R) (anE X w0 b ss))) : KE X w0 e ss R :=
  PE.imp hp fun σ H Q ⟨w, ew, hs, q⟩ => ⟨w, ew, hs, fun v a w1 l1 hv hk => ⟨_, hk, w1, rfl, hs.mono l1, fun v2 a2 w2 l2 hv2 hd => hd v v2 w2 Q (hv.mono l2) hv2 fun v3 a3 w3 l3 h3 r3 => q v3 a3 w3 (l1.trans (l2.trans l3)) h3 r3⟩⟩
theorem k_op {a b : Expr} {op : Operator} {pos : Pos} {r : R2} {R : AV → Prop} (ho : OpR X (binaryOp op) r) (h : KE X w0 a ss fun x => KE X w0 b ss fun y => DR X.K r x y R) : KE X w0 (.BinOp a op b pos) ss R :=
  k_opG (a := a) (b := b) (pe_op ho h pe_an)
theorem k_cmp {a b : Expr} {op : CmpOp} {pos : Pos} {r : R2} {R : AV → Prop} (ho : OpR X (compareOp op) r) (hm : behindInMarks op b = false) (h : KE X w0 a ss fun x => KE X w0 b ss fun y => DR X.K r x y R) : KE X w0 (.Compare a [op] [b] pos) ss R :=
  k_opG (a := a) (b := b) (pe_cmpR ho h pe_an hm)
theorem k_ix {a b : Expr} {pos : Pos} {r : R2} {R : AV → Prop} (ho : IxR X r) (hp : PlainIx b) (h : KE X w0 a ss fun x => KE X w0 b ss fun y => DR X.K r x y R) : KE X w0 (.Subscript a b pos) ss R :=
  k_opG (a := a) (b := b) (pe_ix ho h pe_an hp)
theorem kt_cmp {a b : Expr} {op : CmpOp} {pos : Pos} {r : R2} {R : Bool → Prop} (ho : OpR X (compareOp op) r) (hm : behindInMarks op b = false) (h : KE X w0 a ss fun x => KE X w0 b ss fun y => DR X.K r x y fun z => onBool z R) : KT X w0 (.Compare a [op] [b] pos) ss R :=
  PT.imp (pt_cmpR ho h pe_an hm) fun σ H Q ⟨w, ew, hs, q⟩ => ⟨w, ew, hs, fun v a w1 l1 hv hk => ⟨_, hk, w1, rfl, hs.mono l1, fun v2 a2 w2 l2 hv2 hd => hd v v2 w2 _ (hv.mono l2) hv2 fun v3 a3 w3 l3 h3 r3 => by
    obtain ⟨b, rfl, hb⟩ := onBool.of r3
    cases h3
    exact ⟨b, rfl, q b w3 (l1.trans (l2.trans l3)) hb⟩⟩⟩
theorem kt_val {e : Expr} {R : Bool → Prop} (h : KE X w0 e ss fun a => onBool a R) (he : ∀ whole, isTrue e X.env whole = (do let v ← whole; standAt e.pos; holding [v] (truthy v)) := by intro _; rfl) : KT X w0 e ss R :=
  PT.imp (pt_val h he) fun σ H Q ⟨w, ew, hs, q⟩ => ⟨w, ew, hs, fun v a w1 l1 hv hk => by
    obtain ⟨b, rfl, hb⟩ := onBool.of hk
    cases hv
    exact ⟨b, rfl, q b w1 l1 hb⟩⟩
def iteP (b : Bool) (P P' : Prop) : Prop := match b with | true => P | false => P'
theorem iteP.go {b : Bool} {P P' : Prop} (h : iteP b P P') : if b = true then P else P' := by
  cases b
  · rw [if_neg Bool.false_ne_true]; exact h
  · rw [if_pos rfl]; exact h
theorem kt_not {e : Expr} {pos : Pos} {R : Bool → Prop} (h : KT X w0 e ss fun b => R (!b)) : KT X w0 (.UnaryOp .Not e pos) ss R :=
  PT.imp (pt_not h) fun σ H Q ⟨w, ew, hs, q⟩ => ⟨w, ew, hs, fun b w1 l1 hk => q (!b) w1 l1 hk⟩
theorem kt_w {e : Expr} {R : Bool → Prop} (h : KW X w0 e ss R) : KT X w0 e ss R := h.pt
theorem kw_and {a b : Expr} {rest : List Expr} {pos : Pos} {R : Bool → Prop} (h : KT X w0 a ss fun c => iteP c (KW X w0 (.BoolOp .And (b :: rest) pos) ss R) (R false)) : KW X w0 (.BoolOp .And (a :: b :: rest) pos) ss R :=
  PW.imp (pw_and h pw_an) fun σ H Q ⟨w, ew, hs, q⟩ => ⟨w, ew, hs, fun c w1 l1 hk => by
    cases c
    · exact iteF (q false w1 l1 hk)
    · exact iteT ⟨_, hk, w1, rfl, hs.mono l1, fun d w2 l2 hd => q d w2 (l1.trans l2) hd⟩⟩
theorem kw_or {a b : Expr} {rest : List Expr} {pos : Pos} {R : Bool → Prop} (h : KT X w0 a ss fun c => iteP c (R true) (KW X w0 (.BoolOp .Or (b :: rest) pos) ss R)) : KW X w0 (.BoolOp .Or (a :: b :: rest) pos) ss R :=
  PW.imp (pw_or h pw_an) fun σ H Q ⟨w, ew, hs, q⟩ => ⟨w, ew, hs, fun c w1 l1 hk => by
    cases c
    · exact iteF ⟨_, hk, w1, rfl, hs.mono l1, fun d w2 l2 hd => q d w2 (l1.trans l2) hd⟩
    · exact iteT (q true w1 l1 hk)⟩
theorem kw_and1 {a : Expr} {pos : Pos} {R : Bool → Prop} (h : KT X w0 a ss R) : KW X w0 (.BoolOp .And [a] pos) ss R := pw_and1 h
theorem kw_or1 {a : Expr} {pos : Pos} {R : Bool → Prop} (h : KT X w0 a ss R) : KW X w0 (.BoolOp .Or [a] pos) ss R := pw_or1 h
theorem k_and {a b : Expr} {rest : List Expr} {pos : Pos} {R : AV → Prop} (h : KE X w0 a ss fun x => onBool x fun c => iteP c (KE X w0 (.BoolOp .And (b :: rest) pos) ss R) (R (.dat (.bool false)))) : KE X w0 (.BoolOp .And (a :: b :: rest) pos) ss R :=
  PE.imp (pe_and h pe_an) fun σ H Q ⟨w, ew, hs, q⟩ => ⟨w, ew, hs, fun v a w1 l1 hv hk => by
    obtain ⟨c, rfl, hc⟩ := onBool.of hk
    cases hv
    refine ⟨c, rfl, ?_⟩
    cases c
    · exact iteF (q (.bl false) (.dat (.bool false)) w1 l1 (.bl false) hc)
    · exact iteT ⟨_, hc, w1, rfl, hs.mono l1, fun v2 a2 w2 l2 h2 r2 => q v2 a2 w2 (l1.trans l2) h2 r2⟩⟩
theorem k_or {a b : Expr} {rest : List Expr} {pos : Pos} {R : AV → Prop} (h : KE X w0 a ss fun x => onBool x fun c => iteP c (R (.dat (.bool true))) (KE X w0 (.BoolOp .Or (b :: rest) pos) ss R)) : KE X w0 (.BoolOp .Or (a :: b :: rest) pos) ss R :=
  PE.imp (pe_or h pe_an) fun σ H Q ⟨w, ew, hs, q⟩ => ⟨w, ew, hs, fun v a w1 l1 hv hk => by
    obtain ⟨c, rfl, hc⟩ := onBool.of hk
    cases hv
    refine ⟨c, rfl, ?_⟩
    cases c
    · exact iteF ⟨_, hc, w1, rfl, hs.mono l1, fun v2 a2 w2 l2 h2 r2 => q v2 a2 w2 (l1.trans l2) h2 r2⟩
    · exact iteT (q (.bl true) (.dat (.bool true)) w1 l1 (.bl true) hc)⟩
theorem k_one {a : Expr} {op : BoolOp} {pos : Pos} {R : AV → Prop} (h : KE X w0 a ss R) : KE X w0 (.BoolOp op [a] pos) ss R := pe_one h
theorem k_not {a : Expr} {pos : Pos} {R : AV → Prop} (h : KE X w0 a ss fun x => onBool x fun c => R (.dat (.bool (!c)))) : KE X w0 (.UnaryOp .Not a pos) ss R :=
  PE.imp (pe_not h) fun σ H Q ⟨w, ew, hs, q⟩ => ⟨w, ew, hs, fun v a w1 l1 hv hk => by
    obtain ⟨c, rfl, hc⟩ := onBool.of hk
    cases hv
    exact ⟨c, rfl, q (.bl (!c)) (.dat (.bool (!c))) w1 l1 (.bl _) hc⟩⟩
theorem k_ifE {c a b : Expr} {pos : Pos} {R : AV → Prop} (h : KT X w0 c ss fun t => iteP t (KE X w0 a ss R) (KE X w0 b ss R)) : KE X w0 (.IfExp c a b pos) ss R :=
  PE.imp (pe_ifExp h pe_an pe_an) fun σ H Q ⟨w, ew, hs, q⟩ => ⟨w, ew, hs, fun t w1 l1 hk => by
    cases t
    · exact iteF ⟨_, hk, w1, rfl, hs.mono l1, fun v2 a2 w2 l2 h2 r2 => q v2 a2 w2 (l1.trans l2) h2 r2⟩
    · exact iteT ⟨_, hk, w1, rfl, hs.mono l1, fun v2 a2 w2 l2 h2 r2 => q v2 a2 w2 (l1.trans l2) h2 r2⟩⟩
theorem k_un {a : Expr} {op : UnaryOp} {pos : Pos} {r : V → Hp → VK → Prop} {R : AV → Prop} (ho : UnR X (unaryOp op) r) (h : KE X w0 a ss fun x => DU X.K r x R) : KE X w0 (.UnaryOp op a pos) ss R :=
  PE.imp (pe_un ho h) fun σ H Q ⟨w, ew, hs, q⟩ => ⟨w, ew, hs, fun v a w1 l1 hv hk => hk v w1 Q hv fun v2 a2 w2 l2 h2 r2 => q v2 a2 w2 (l1.trans l2) h2 r2⟩
/-- a built-in's call -/
theorem k_callB {id : String} {e : Expr} {es : List Expr} {x : Str} {p pos : Pos} {r : List V → Hp → VK → Prop} {R : AV → Prop} (hc : CallR X (.builtin id) r) (hg : Gl X x) (hm : X.mg x = none) (hv : bootBuiltins x = some (.builtin id)) (h : KA X w0 (e :: es) ss fun as => DC X.K r as R)
    (hn : x ≠ "__name__" := by decide) (hdb : (x == ("__debug__" : Str)) = false := by decide)
    (he : starEach (e :: es) X.env = (false, eval e X.env) :: starEach es X.env := by rfl) (hpl : (backTo pos (starEach es X.env)).any (·.1) = false := by rfl) : KE X w0 (.Call (.Name x p) (e :: es) [] pos) ss R :=
  PE.imp (pe_callB hc hg hm hv h hn hdb he hpl) fun σ H Q ⟨w, ew, hs, q⟩ => ⟨w, ew, hs, fun vs as w1 l1 hvs hk => hk vs w1 Q hvs fun v2 a2 w2 l2 h2 r2 => q v2 a2 w2 (l1.trans l2) h2 r2⟩
theorem k_callTy {T : String} {e : Expr} {es : List Expr} {x : Str} {p pos : Pos} {r : List V → Hp → VK → Prop} {R : AV → Prop} (hc : CallR X (.type T) r) (hg : Gl X x) (hm : X.mg x = none) (hv : bootBuiltins x = some (.type T)) (h : KA X w0 (e :: es) ss fun as => DC X.K r as R)
    (hn : x ≠ "__name__" := by decide) (hdb : (x == ("__debug__" : Str)) = false := by decide)
    (he : starEach (e :: es) X.env = (false, eval e X.env) :: starEach es X.env := by rfl) (hpl : (backTo pos (starEach es X.env)).any (·.1) = false := by rfl) : KE X w0 (.Call (.Name x p) (e :: es) [] pos) ss R :=
  PE.imp (pe_callTy hc hg hm hv h hn hdb he hpl) fun σ H Q ⟨w, ew, hs, q⟩ => ⟨w, ew, hs, fun vs as w1 l1 hvs hk => hk vs w1 Q hvs fun v2 a2 w2 l2 h2 r2 => q v2 a2 w2 (l1.trans l2) h2 r2⟩

/-! ### promises over data -/
/-- C: what the arguments must be, and what is then wanted of the answer -/
def spA (K : PySem.W.Frag) (C : List AV → (AV → Prop) → Prop) : Sp := fun vs H Q _ => ∃ (w : Wl) (as : List AV) (R : AV → Prop), w.h = H ∧ AvA K w vs as ∧ (as.all AV.plain = true ∧ C as R) ∧ ∀ v a w', Le w w' → Av K w' v a → R a → Q v w'.h
theorem k_call {C : List AV → (AV → Prop) → Prop} {k : Nat} {f : Addr} {fd : FuncData} {ps : List Str} {x : Str} {p pos : Pos} {e : Expr} {es : List Expr} {R : AV → Prop} (F : FnOk X.prog X.w X.K X.mg X.base CX0 k f fd ps (spA X.K C)) (hr : Room k X.A) (hg : Gl X x) (hm : X.mg x = some (.ref f)) (hk : PySem.W.keepIn X.K (.ref f) = true) (hb : Binds X.K fd ps [])
    (h : KA X w0 (e :: es) ss fun as => as.all AV.plain = true ∧ C as R) (hdb : (x == ("__debug__" : Str)) = false := by decide) (he : starEach (e :: es) X.env = (false, eval e X.env) :: starEach es X.env := by rfl) (hpl : (backTo pos (starEach es X.env)).any (·.1) = false := by rfl) :
    KE X w0 (.Call (.Name x p) (e :: es) [] pos) ss R :=
  PE.imp (pe_call F hr hg hm hk hb .nil pass0 h hdb he hpl) fun σ H Q ⟨w, ew, hs, q⟩ => ⟨w, ew, hs, fun vs as w1 l1 hvs hk => by
    show spA X.K C (vs ++ []) w1.h Q _
    rw [List.append_nil]
    exact ⟨w1, as, R, rfl, hvs, hk, fun v2 a2 w2 l2 h2 r2 => q v2 a2 w2 (l1.trans l2) h2 r2⟩⟩

/-! ### displays -/
theorem k_tup {es : List Expr} {x1 : Nat} {pos : Pos} {R : AV → Prop} (h : KA X w0 es ss fun as => onDats as fun ds => ds.length ≤ 100000 ∧ R (.dat (.tuple ds))) : KE X w0 (.Tuple es x1 pos) ss R :=
  PE.imp (pe_tup h) fun σ H Q ⟨w, ew, hs, q⟩ => ⟨w, ew, hs, fun vs as w1 l1 hvs hk => by
    obtain ⟨ds, rfl, hz, hr⟩ := onDats.of hk
    have hd := AvA.dats hvs
    refine ⟨by rw [hd.length]; exact Nat.le_trans hz (by decide), fun p hp => ?_⟩
    exact q (.ref p) (.dat (.tuple ds)) (w1.put p (.tup vs)) (l1.trans (Le.put hp)) (.tup (.inl (.inl upd_same)) (hd.mono (Le.put hp).g)) hr⟩
theorem kn_lst {es : List Expr} {pos : Pos} {R : List PyData → Prop} (h : KA X w0 es ss fun as => onDats as fun ds => ds.length ≤ 100000 ∧ R ds) : KN X w0 (.List es pos) ss R :=
  PE.imp (pe_lst h) fun σ H Q ⟨w, ew, hs, q⟩ => ⟨w, ew, hs, fun vs as w1 l1 hvs hk => by
    obtain ⟨ds, rfl, hz, hr⟩ := onDats.of hk
    have hd := AvA.dats hvs
    refine ⟨by rw [hd.length]; exact Nat.le_trans hz (by decide), fun p hp => ?_⟩
    have hpw : w.h p = none := by
      cases e : w.h p with
      | none => rfl
      | some o =>
        have := l1.h p o e
        rw [hp] at this
        cases this
    exact q p vs ds (w1.own p (.lst vs) (w1.gfree hp)) (l1.trans (Le.own hp)) hpw upd_same (w1.gfree hp) hd hr⟩
/-- what leaned on nothing is leant on -/
theorem k_ofN {e : Expr} {R : AV → Prop} (h : KN X w0 e ss fun ds => R (.dat (.list ds))) : KE X w0 e ss R :=
  PE.imp h fun σ H Q ⟨w, ew, hs, q⟩ => ⟨w, ew, hs, fun p vs ds w1 l1 hn h1 h2 hd hr => by
    have hg : w.g p = none := w.gfree hn
    have sub : Ex (upd w1.g p (.lst vs)) w1.h := fun a u e => by
      by_cases z : a = p
      · subst z
        rw [upd_same] at e
        cases e
        exact h1
      · rw [upd_ne z] at e
        exact w1.sub a u e
    have eg : Ex w1.g (upd w1.g p (.lst vs)) := Ex.new h2
    refine q (.ref p) (.dat (.list ds)) ⟨upd w1.g p (.lst vs), w1.h, sub⟩ ⟨l1.g.trans eg, l1.h, fun b b1 b2 => ?_⟩ (.lst upd_same (hd.mono eg)) hr
    have z : b ≠ p := fun z => b1 (by rw [z]; exact hn)
    show upd w1.g p (.lst vs) b = none
    rw [upd_ne z]
    exact l1.hid b b1 b2⟩
theorem k_lst {es : List Expr} {pos : Pos} {R : AV → Prop} (h : KA X w0 es ss fun as => onDats as fun ds => ds.length ≤ 100000 ∧ R (.dat (.list ds))) : KE X w0 (.List es pos) ss R := k_ofN (kn_lst h)
theorem k_dic0 {pos : Pos} {R : AV → Prop} (hR : R (.dat (.dict []))) : KE X w0 (.Dict [] [] pos) ss R :=
  PE.imp pe_dnewK fun σ H Q ⟨w, ew, hs, q⟩ => by
    subst ew
    exact fun p hp => q (.ref p) (.dat (.dict [])) (w.put p (.dK [])) (Le.put hp) (.dic upd_same) hR

/-! ### statements -/
theorem ks_cons {st : Stmt} {rest : List Stmt} {N : AN} (h : KS X w0 st ss { N with nx := fun ss' => KSs X w0 rest ss' N }) : KSs X w0 (st :: rest) ss N :=
  PSs.imp (pss_cons h (pss_an (w0 := w0))) fun D σ H ⟨w, ew, hs, d⟩ => ⟨w, ew, hs, ⟨fun σ' ss' w' e hs' hk => ⟨ss', N, hk, w', rfl, hs', d.mono e⟩, d.rt, d.bk, d.ct⟩⟩
theorem ks_one {st : Stmt} {N : AN} (h : KS X w0 st ss N) : KSs X w0 [st] ss N := pss_one h
theorem ks_nil {N : AN} (h : N.nx ss) : KSs X w0 [] ss N := PSs.imp pss_nil fun D σ H ⟨w, ew, hs, d⟩ => by
  subst ew
  exact d.nx σ ss w (Ex.refl _) hs h
theorem ks_if {c : Expr} {a b : List Stmt} {pos : Pos} {N : AN} (h : KT X w0 c ss fun t => iteP t (KSs X w0 a ss N) (KSs X w0 b ss N)) : KS X w0 (.If c a b pos) ss N :=
  PS.imp (ps_if h (pss_an (w0 := w0)) (pss_an (w0 := w0))) fun D σ H ⟨w, ew, hs, d⟩ => ⟨w, ew, hs, fun t w1 l1 hk => by
    cases t
    · exact iteF ⟨ss, N, hk, w1, rfl, hs.mono l1, d.mono l1.g⟩
    · exact iteT ⟨ss, N, hk, w1, rfl, hs.mono l1, d.mono l1.g⟩⟩
abbrev onPlain (a : AV) (P : AV → Prop) : Prop := match a with | .buf _ => False | a => P a
theorem onPlain.of {a : AV} {P : AV → Prop} (h : onPlain a P) : a.plain = true ∧ P a := by
  cases a with
  | buf ds => exact h.elim
  | dat d => exact ⟨rfl, h⟩
  | pool => exact ⟨rfl, h⟩
  | scr ns => exact ⟨rfl, h⟩
  | err C ds => exact ⟨rfl, h⟩
theorem ks_set (i : Nat) {x : Str} {e : Expr} {p pos : Pos} {N : AN} (hN : X.N.Nodup) (hi : X.N[i]? = some x) (hx : Loc X.env.scope x) (h : KE X w0 e ss fun a => onPlain a fun a => N.nx (ss.set i (some a)))
    (hs : swapsWith e (some (.Name x p)) pos.line X.env = pure false := by rfl) (hf : X.fn x = true ∨ X.env.scope.names.lookup x = some .local := by first | exact .inl rfl | exact .inr rfl | assumption) : KS X w0 (.Assign [.Name x p] e pos) ss N :=
  PS.imp (ps_set hN hi hx h hs hf) fun D σ H ⟨w, ew, hs, d⟩ => ⟨w, ew, hs, fun v a w1 l1 hv hk => by
    obtain ⟨hp, hk⟩ := hk.of
    exact d.nx _ _ w1 l1.g ((hs.mono l1).set i hp hv) hk⟩
theorem ks_setN (i : Nat) {x : Str} {e : Expr} {p pos : Pos} {N : AN} (hN : X.N.Nodup) (hi : X.N[i]? = some x) (hx : Loc X.env.scope x) (h : KN X w0 e ss fun ds => N.nx (ss.set i (some (.buf ds))))
    (hs : swapsWith e (some (.Name x p)) pos.line X.env = pure false := by rfl) (hf : X.fn x = true ∨ X.env.scope.names.lookup x = some .local := by first | exact .inl rfl | exact .inr rfl | assumption) : KS X w0 (.Assign [.Name x p] e pos) ss N :=
  PS.imp (ps_set hN hi hx h hs hf) fun D σ H ⟨w, ew, hs, d⟩ => ⟨w, ew, hs, fun p vs ds w1 l1 hn h1 h2 hd hk => d.nx _ _ w1 l1.g (hs.setN i hn l1 h1 h2 hd) hk⟩
theorem ks_ret {e : Expr} {pos : Pos} {N : AN} (h : KE X w0 e ss fun a => N.rt a) : KS X w0 (.Return (some e) pos) ss N :=
  PS.imp (ps_ret h) fun D σ H ⟨w, ew, hs, d⟩ => ⟨w, ew, hs, fun v a w1 l1 hv hk => d.rt v a w1 l1.g (hs.le.trans l1) hv hk⟩
theorem ks_pass {pos : Pos} {N : AN} (h : N.nx ss) : KS X w0 (.Pass pos) ss N := PS.imp ps_pass fun D σ H ⟨w, ew, hs, d⟩ => by
  subst ew
  exact d.nx σ ss w (Ex.refl _) hs h
/-- a hidden list is leant on from here -/
theorem ks_freeze (i : Nat) {ds : List PyData} {sts : List Stmt} {N : AN} (hi : ss[i]? = some (some (.buf ds))) (h : KSs X w0 sts (ss.set i (some (.dat (.list ds)))) N) : KSs X w0 sts ss N :=
  PSs.imp h fun D σ H ⟨w, ew, hs, d⟩ => by
    obtain ⟨v, hv, a, vs, rfl, h1, h2, h3⟩ := hs.at_ i _ hi
    have sub : Ex (upd w.g a (.lst vs)) w.h := fun b u e => by
      by_cases z : b = a
      · subst z
        rw [upd_same] at e
        cases e
        exact h1
      · rw [upd_ne z] at e
        exact w.sub b u e
    have eg : Ex w.g (upd w.g a (.lst vs)) := Ex.new h2
    have h0 : w0.h a = none := hs.fr i ds a hi hv
    have hiL : i < ss.length := (List.getElem?_eq_some_iff.mp hi).1
    refine ⟨⟨upd w.g a (.lst vs), w.h, sub⟩, ew, ⟨⟨hs.le.g.trans eg, hs.le.h, fun b b1 b2 => ?_⟩, by rw [List.length_set]; exact hs.len, fun j b e => ?_, fun j k es fs u hjk e1 e2 e3 => ?_, fun j es p e1 e2 => ?_⟩, d.mono eg⟩
    · have z : b ≠ a := fun z => b1 (by rw [z]; exact h0)
      show upd w.g a (.lst vs) b = none
      rw [upd_ne z]
      exact hs.le.hid b b1 b2
    · by_cases hj : i = j
      · subst hj
        rw [List.getElem?_set_self hiL] at e
        cases e
        exact ⟨_, hv, .lst upd_same (h3.mono eg)⟩
      · rw [List.getElem?_set_ne hj] at e
        obtain ⟨u, g1, g2⟩ := hs.at_ j b e
        refine ⟨u, g1, ?_⟩
        cases b with
        | dat d => exact Dd.mono eg g2
        | pool =>
          obtain ⟨p, rfl, hp⟩ := g2
          exact ⟨p, rfl, eg _ _ hp⟩
        | scr ns =>
          obtain ⟨p, rfl, hp⟩ := g2
          exact ⟨p, rfl, ex_l eg hp⟩
        | err C es =>
          obtain ⟨p, d2, fs2, rfl, q1, q2, q3⟩ := g2
          exact ⟨p, d2, fs2, rfl, eg _ _ q1, q2.mono eg, q3.mono eg⟩
        | buf es =>
          obtain ⟨p, us, rfl, q1, q2, q3⟩ := g2
          refine ⟨p, us, rfl, q1, ?_, q3.mono eg⟩
          have z : p ≠ a := fun z => by
            subst z
            exact hs.ap i j ds es _ hj hi e hv g1
          show upd w.g a (.lst vs) p = none
          rw [upd_ne z]
          exact q2
    · have n1 : i ≠ j := fun z => by
        subst z
        rw [List.getElem?_set_self hiL] at e1
        cases e1
      have n2 : i ≠ k := fun z => by
        subst z
        rw [List.getElem?_set_self hiL] at e2
        cases e2
      rw [List.getElem?_set_ne n1] at e1
      rw [List.getElem?_set_ne n2] at e2
      exact hs.ap j k es fs u hjk e1 e2 e3
    · have n1 : i ≠ j := fun z => by
        subst z
        rw [List.getElem?_set_self hiL] at e1
        cases e1
      rw [List.getElem?_set_ne n1] at e1
      exact hs.fr j es p e1 e2
end
end Kp


namespace Kp
open PySem PySem.Spec PyProof.Rows L2
section
variable {X : Cx} {w0 : Wl} {ss : SS} {a b : Expr} {pos : Pos} {R : AV → Prop}
theorem OpR.or {f : Value → Value → Sem Value} {r r' : R2} (h : OpR X f r) (h' : OpR X f r') : OpR X f (fun x y H Q => r x y H Q ∨ r' x y H Q) := fun pins s σ H x y v u Q I rx ry q =>
  q.elim (h pins s σ H x y v u Q I rx ry) (h' pins s σ H x y v u Q I rx ry)
theorem go {K : PySem.W.Frag} {w : Wl} {Q : VK} {v : V} {d : PyData} {R : AV → Prop} (q : ∀ v a w', Le w w' → Av K w' v a → R a → Q v w'.h) (h : Dd K w.g v d) (r : R (.dat d)) : Q v w.h := q v (.dat d) w (Le.refl w) h r
theorem sz {n : Nat} (h : n ≤ 100000) : n ≤ sizeLine := Nat.le_trans h (by decide)
/-! ### + - * % // ** -/
abbrev addS (x y : AV) (R : AV → Prop) : Prop := match x, y with
  | .dat (.int i), .dat (.int j) => R (.dat (.int (i + j)))
  | .dat (.list d), .dat (.list e) => d.length + e.length ≤ 100000 ∧ R (.dat (.list (d ++ e)))
  | .dat (.tuple d), .dat (.tuple e) => d.length + e.length ≤ 100000 ∧ R (.dat (.tuple (d ++ e)))
  | .dat (.str d), .dat (.str e) => d.length + e.length ≤ 100000 ∧ R (.dat (.str (d ++ e)))
  | _, _ => False
theorem Le.lst {K : PySem.W.Frag} {w : Wl} {Q : VK} {vs : List V} {ds : List PyData} {R : AV → Prop} (hd : DdA K w.g vs ds) (hr : R (.dat (.list ds))) (q : ∀ v a w', Le w w' → Av K w' v a → R a → Q v w'.h) :
    ∀ p, w.h p = none → Q (.ref p) (upd w.h p (.lst vs)) := fun p hp => q (.ref p) (.dat (.list ds)) (w.put p (.lst vs)) (Le.put hp) (.lst upd_same (hd.mono (Le.put hp).g)) hr
theorem Le.tup {K : PySem.W.Frag} {w : Wl} {Q : VK} {vs : List V} {ds : List PyData} {R : AV → Prop} (hd : DdA K w.g vs ds) (hr : R (.dat (.tuple ds))) (q : ∀ v a w', Le w w' → Av K w' v a → R a → Q v w'.h) :
    ∀ p, w.h p = none → Q (.ref p) (upd w.h p (.tup vs)) := fun p hp => q (.ref p) (.dat (.tuple ds)) (w.put p (.tup vs)) (Le.put hp) (.tup (.inl (.inl upd_same)) (hd.mono (Le.put hp).g)) hr
theorem Wl.t {K : PySem.W.Frag} (w : Wl) {p : Addr} {vs : List V} (h : SqT K w.g p vs) : SqT K w.h p vs := ex_t w.sub h
theorem k_add (h : KE X w0 a ss fun x => KE X w0 b ss fun y => addS x y R) : KE X w0 (.BinOp a .Add b pos) ss R :=
  k_op (OpR.or op_add (OpR.or op_cat (OpR.or op_catA op_add_str))) (KE.weak h fun x hx => KE.weak hx fun y hy vx vy w Q ax ay q => by
    unfold addS at hy
    split at hy
    · cases ax
      cases ay
      exact .inl ⟨_, _, rfl, rfl, go q (.int _) hy⟩
    · obtain ⟨hz, hr⟩ := hy
      cases ax with
      | lst h1 d1 =>
        cases ay with
        | lst h2 d2 => exact .inr (.inl ⟨_, _, _, _, rfl, rfl, w.sub _ _ h1, w.sub _ _ h2, sz (by rw [d1.length, d2.length]; exact hz), Le.lst (d1.append d2) hr q⟩)
    · obtain ⟨hz, hr⟩ := hy
      cases ax with
      | tup h1 d1 =>
        cases ay with
        | tup h2 d2 =>
          refine .inr (.inr (.inl ⟨_, _, _, _, rfl, rfl, w.t h1, w.t h2, sz (by rw [d1.length, d2.length]; exact hz), fun e => ?_, fun _ e => ?_, fun _ _ => Le.tup (d1.append d2) hr q⟩))
          · subst e
            cases d1
            exact go q (.tup h2 d2) hr
          · subst e
            cases d2
            rw [List.append_nil] at hr
            exact go q (.tup h1 d1) hr
    · obtain ⟨hz, hr⟩ := hy
      cases ax
      cases ay
      exact .inr (.inr (.inr ⟨_, _, rfl, rfl, sz hz, go q (.str _) hr⟩))
    · exact hy.elim)
/-- two ints -/
abbrev intS (x y : AV) (P : Int → Int → Prop) : Prop := match x, y with
  | .dat (.int i), .dat (.int j) => P i j
  | _, _ => False
theorem intS.of {x y : AV} {P : Int → Int → Prop} (h : intS x y P) : ∃ i j, x = .dat (.int i) ∧ y = .dat (.int j) ∧ P i j := by
  unfold intS at h
  split at h
  · exact ⟨_, _, rfl, rfl, h⟩
  · exact h.elim
theorem k_opI {op : Operator} {C : Int → Int → Prop} {g : Int → Int → Int} (ho : OpR X (binaryOp op) (rI C fun i j => .int (g i j))) (h : KE X w0 a ss fun x => KE X w0 b ss fun y => intS x y fun i j => C i j ∧ R (.dat (.int (g i j)))) : KE X w0 (.BinOp a op b pos) ss R :=
  k_op ho (KE.weak h fun x hx => KE.weak hx fun y hy vx vy w Q ax ay q => by
    obtain ⟨i, j, rfl, rfl, hc, hr⟩ := hy.of
    cases ax
    cases ay
    exact ⟨i, j, rfl, rfl, hc, go q (.int _) hr⟩)
theorem k_opI0 {op : Operator} {g : Int → Int → Int} (ho : OpR X (binaryOp op) (rI0 fun i j => .int (g i j))) (h : KE X w0 a ss fun x => KE X w0 b ss fun y => intS x y fun i j => R (.dat (.int (g i j)))) : KE X w0 (.BinOp a op b pos) ss R :=
  k_op ho (KE.weak h fun x hx => KE.weak hx fun y hy vx vy w Q ax ay q => by
    obtain ⟨i, j, rfl, rfl, hr⟩ := hy.of
    cases ax
    cases ay
    exact ⟨i, j, rfl, rfl, go q (.int _) hr⟩)
theorem k_sub (h : KE X w0 a ss fun x => KE X w0 b ss fun y => intS x y fun i j => R (.dat (.int (i - j)))) : KE X w0 (.BinOp a .Sub b pos) ss R := k_opI0 op_sub h
theorem k_mod (h : KE X w0 a ss fun x => KE X w0 b ss fun y => intS x y fun i j => 0 < j ∧ R (.dat (.int (i % j)))) : KE X w0 (.BinOp a .Mod b pos) ss R := k_opI op_mod h
theorem k_fdiv (h : KE X w0 a ss fun x => KE X w0 b ss fun y => intS x y fun i j => CDiv i j ∧ R (.dat (.int (i / j)))) : KE X w0 (.BinOp a .FloorDiv b pos) ss R := k_opI op_fdiv h
theorem k_pow (h : KE X w0 a ss fun x => KE X w0 b ss fun y => intS x y fun i j => CPow i j ∧ R (.dat (.int (i ^ j.toNat)))) : KE X w0 (.BinOp a .Pow b pos) ss R := k_opI op_pow h
abbrev mulS (x y : AV) (R : AV → Prop) : Prop := match x, y with
  | .dat (.int i), .dat (.int j) => CMul i j ∧ R (.dat (.int (i * j)))
  | .dat (.list d), .dat (.int k) => -(2 ^ 63) ≤ k ∧ k < 2 ^ 63 ∧ d.length * k.toNat ≤ 100000 ∧ R (.dat (.list (List.replicate k.toNat d).flatten))
  | _, _ => False
theorem DdA.rep {K : PySem.W.Frag} {H : Hp} {vs : List V} {ds : List PyData} (h : DdA K H vs ds) : ∀ n : Nat, DdA K H (List.replicate n vs).flatten (List.replicate n ds).flatten
  | 0 => .nil
  | n + 1 => by
    simp only [List.replicate_succ, List.flatten_cons]
    exact h.append (DdA.rep h n)
theorem k_mul (h : KE X w0 a ss fun x => KE X w0 b ss fun y => mulS x y R) : KE X w0 (.BinOp a .Mult b pos) ss R :=
  k_op (OpR.or op_mul op_rep) (KE.weak h fun x hx => KE.weak hx fun y hy vx vy w Q ax ay q => by
    unfold mulS at hy
    split at hy
    · obtain ⟨hc, hr⟩ := hy
      cases ax
      cases ay
      exact .inl ⟨_, _, rfl, rfl, hc, go q (.int _) hr⟩
    · obtain ⟨h1, h2, hz, hr⟩ := hy
      cases ay
      cases ax with
      | lst h3 d1 => exact .inr ⟨_, _, _, rfl, rfl, w.sub _ _ h3, h1, h2, sz (by rw [d1.length]; exact hz), Le.lst (d1.rep _) hr q⟩
    · exact hy.elim)
/-! ### comparisons -/
/-- a comparison's rule by data: what it tells -/
def DCmp (X : Cx) (op : CmpOp) (S : AV → AV → (Bool → Prop) → Prop) : Prop := ∃ r, OpR X (compareOp op) r ∧ ∀ x y (R : AV → Prop), S x y (fun c => R (.dat (.bool c))) → DR X.K r x y R
theorem k_cm {op : CmpOp} {S : AV → AV → (Bool → Prop) → Prop} (hc : DCmp X op S) (h : KE X w0 a ss fun x => KE X w0 b ss fun y => S x y fun c => R (.dat (.bool c))) (hm : behindInMarks op b = false := by first | exact nobehind _ (by decide) (by decide) | rfl) : KE X w0 (.Compare a [op] [b] pos) ss R := by
  obtain ⟨r, ho, hk⟩ := hc
  exact k_cmp ho hm (KE.weak h fun x hx => KE.weak hx fun y hy => hk x y R hy)
theorem kt_cm {op : CmpOp} {S : AV → AV → (Bool → Prop) → Prop} {R : Bool → Prop} (hc : DCmp X op S) (h : KE X w0 a ss fun x => KE X w0 b ss fun y => S x y R) (hm : behindInMarks op b = false := by first | exact nobehind _ (by decide) (by decide) | rfl) : KT X w0 (.Compare a [op] [b] pos) ss R := by
  obtain ⟨r, ho, hk⟩ := hc
  exact kt_cmp ho hm (KE.weak h fun x hx => KE.weak hx fun y hy => hk x y (fun z => onBool z R) hy)
abbrev cmpS (f : Int → Int → Bool) (x y : AV) (R : Bool → Prop) : Prop := match x, y with
  | .dat (.int i), .dat (.int j) => R (f i j)
  | _, _ => False
theorem dc_int {op : CmpOp} {f : Int → Int → Bool} (ho : OpR X (compareOp op) (rI0 fun i j => .bl (f i j))) : DCmp X op (cmpS f) := ⟨_, ho, fun x y R hy vx vy w Q ax ay q => by
  unfold cmpS at hy
  split at hy
  · cases ax
    cases ay
    exact ⟨_, _, rfl, rfl, go q (.bl _) hy⟩
  · exact hy.elim⟩
theorem dc_lt : DCmp X .Lt (cmpS fun i j => decide (i < j)) := dc_int op_lt
theorem dc_gt : DCmp X .Gt (cmpS fun i j => decide (j < i)) := dc_int op_gt
theorem dc_ge : DCmp X .GtE (cmpS fun i j => decide (j ≤ i)) := dc_int op_ge
abbrev leS (x y : AV) (R : Bool → Prop) : Prop := match x, y with
  | .dat (.int i), .dat (.int j) => R (decide (i ≤ j))
  | .dat (.str i), .dat (.str j) => R (!decide (j.cps.toList < i.cps.toList))
  | _, _ => False
theorem dc_le : DCmp X .LtE leS := ⟨_, OpR.or op_le op_le_str, fun x y R hy vx vy w Q ax ay q => by
  unfold leS at hy
  split at hy
  · cases ax
    cases ay
    exact .inl ⟨_, _, rfl, rfl, go q (.bl _) hy⟩
  · cases ax
    cases ay
    exact .inr ⟨_, _, rfl, rfl, go q (.bl _) hy⟩
  · exact hy.elim⟩

mutual
def noD : PyData → Bool
  | .list ds => noDA ds
  | .tuple ds => noDA ds
  | .dict _ => false
  | _ => true
def noDA : List PyData → Bool
  | [] => true
  | d :: ds => noD d && noDA ds
end
mutual
theorem Dd.dp {K : PySem.W.Frag} {H : Hp} : ∀ {d : PyData} {v : V}, Dd K H v d → noD d = true → Dp K H v d
  | .none, _, .non, _ => .non
  | .bool _, _, .bl b, _ => .bl b
  | .int _, _, .int i, _ => .int i
  | .str _, _, .str x, _ => .str x
  | .list _, _, .lst h a, n => .lst (.inl (.inl h)) (DdA.dp a n)
  | .tuple _, _, .tup h a, n => .tup h (DdA.dp a n)
theorem DdA.dp {K : PySem.W.Frag} {H : Hp} : ∀ {ds : List PyData} {vs : List V}, DdA K H vs ds → noDA ds = true → DpAll K H vs ds
  | [], _, .nil, _ => .nil
  | _ :: _, _, .cons a t, n => by
    unfold noDA at n
    rw [Bool.and_eq_true] at n
    exact .cons (Dd.dp a n.1) (DdA.dp t n.2)
end
abbrev eqS (x y : AV) (R : Bool → Prop) : Prop := match x, y with
  | .dat d, .dat e => noD d = true ∧ noD e = true ∧ SeqAt.shaped d = true ∧ SeqAt.shaped e = true ∧ R (PyData.eqv d e)
  | _, _ => False
theorem dc_eq (hu : X.A.units + 64 < cLine) : DCmp X .Eq eqS := ⟨_, op_eqD hu, fun x y R hy vx vy w Q ax ay q => by
  unfold eqS at hy
  split at hy
  · obtain ⟨n1, n2, s1, s2, hr⟩ := hy
    exact ⟨_, _, Dd.dp (Dd.mono w.sub ax) n1, Dd.dp (Dd.mono w.sub ay) n2, s1, s2, go q (.bl _) hr⟩
  · exact hy.elim⟩
abbrev neS (x y : AV) (R : Bool → Prop) : Prop := match x, y with
  | .dat d, .dat e => noD d = true ∧ noD e = true ∧ SeqAt.shaped d = true ∧ SeqAt.shaped e = true ∧ R (!PyData.eqv d e)
  | _, _ => False
theorem dc_ne (hu : X.A.units + 64 < cLine) : DCmp X .NotEq neS := ⟨_, op_neD hu, fun x y R hy vx vy w Q ax ay q => by
  unfold neS at hy
  split at hy
  · obtain ⟨n1, n2, s1, s2, hr⟩ := hy
    exact ⟨_, _, Dd.dp (Dd.mono w.sub ax) n1, Dd.dp (Dd.mono w.sub ay) n2, s1, s2, go q (.bl _) hr⟩
  · exact hy.elim⟩
def isNone : PyData → Bool
  | .none => true
  | _ => false
theorem Dd.isNon {K : PySem.W.Frag} {H : Hp} {v : V} {d : PyData} (h : Dd K H v d) : decide (v = .non) = isNone d := by
  cases h <;> first | rfl | exact decide_eq_false (fun z => nomatch z)
abbrev isS (x y : AV) (R : Bool → Prop) : Prop := match x, y with
  | .dat d, .dat .none => R (isNone d)
  | _, _ => False
abbrev isntS (x y : AV) (R : Bool → Prop) : Prop := match x, y with
  | .dat d, .dat .none => R (!isNone d)
  | _, _ => False
theorem dc_is : DCmp X .Is isS := ⟨_, op_isN, fun x y R hy vx vy w Q ax ay q => by
  unfold isS at hy
  split at hy
  · cases ay
    refine ⟨rfl, ?_⟩
    rw [Dd.isNon ax]
    exact go q (.bl _) hy
  · exact hy.elim⟩
theorem dc_isnt : DCmp X .IsNot isntS := ⟨_, op_notN, fun x y R hy vx vy w Q ax ay q => by
  unfold isntS at hy
  split at hy
  · cases ay
    refine ⟨rfl, ?_⟩
    rw [Dd.isNon ax]
    exact go q (.bl _) hy
  · exact hy.elim⟩
/-! ### in -/
/-- flat data -/
def flatD : PyData → Option V
  | .none => some .non
  | .bool b => some (.bl b)
  | .int i => some (.int i)
  | .str x => some (.str x)
  | _ => none
theorem flatD.flat {d : PyData} {v : V} (h : flatD d = some v) : flatV v = true := by
  cases d <;> cases h <;> rfl
theorem flatD.dd {K : PySem.W.Frag} {H : Hp} {d : PyData} {v u : V} (h : flatD d = some v) (q : Dd K H u d) : u = v := by
  cases q <;> cases h <;> rfl
def flatDs : List PyData → Option (List V)
  | [] => some []
  | d :: ds => match flatD d, flatDs ds with
    | some v, some vs => some (v :: vs)
    | _, _ => none
theorem flatDs.dd {K : PySem.W.Frag} {H : Hp} : ∀ {ds : List PyData} {vs us : List V}, flatDs ds = some vs → DdA K H us ds → us = vs ∧ vs.all flatV = true
  | [], _, _, h, .nil => by cases h; exact ⟨rfl, rfl⟩
  | d :: ds, vs, _, h, .cons a t => by
    unfold flatDs at h
    split at h
    · rename_i v ws e1 e2
      cases h
      obtain ⟨e3, e4⟩ := flatDs.dd e2 t
      rw [flatD.dd e1 a, e3]
      exact ⟨rfl, by rw [List.all_cons, flatD.flat e1, e4]; rfl⟩
    · cases h
end
end Kp


namespace Kp
open PySem PySem.Spec PyProof.Rows L2
section
variable {X : Cx} {w0 : Wl} {ss : SS} {a b : Expr} {pos : Pos} {R : AV → Prop}
/-! ### in -/
abbrev inS (x y : AV) (R : Bool → Prop) : Prop := match x, y with
  | .dat (.str x), .dat (.str z) => ∃ c : Nat, x = ⟨#[c]⟩ ∧ R (decide (c ∈ z.cps.toList))
  | .dat d, .dat (.list ds) => ∃ v vs, flatD d = some v ∧ flatDs ds = some vs ∧ R (inV v vs)
  | .dat d, .dat (.tuple ds) => ∃ v vs, flatD d = some v ∧ flatDs ds = some vs ∧ R (inV v vs)
  | _, _ => False
theorem dc_in : DCmp X .In inS := ⟨_, OpR.or op_in_seq op_in_sign, fun x y R hy vx vy w Q ax ay q => by
  unfold inS at hy
  split at hy
  · obtain ⟨c, rfl, hr⟩ := hy
    cases ax
    cases ay
    exact .inr ⟨_, _, rfl, rfl, go q (.bl _) hr⟩
  · obtain ⟨v, vs, e1, e2, hr⟩ := hy
    cases ay with
    | lst h1 d1 =>
      obtain ⟨rfl, hf⟩ := flatDs.dd e2 d1
      obtain rfl := flatD.dd e1 ax
      exact .inl ⟨_, _, rfl, .inl (.inl (.inl (w.sub _ _ h1))), flatD.flat e1, hf, go q (.bl _) hr⟩
  · obtain ⟨v, vs, e1, e2, hr⟩ := hy
    cases ay with
    | tup h1 d1 =>
      obtain ⟨rfl, hf⟩ := flatDs.dd e2 d1
      obtain rfl := flatD.dd e1 ax
      exact .inl ⟨_, _, rfl, .inr (w.t h1), flatD.flat e1, hf, go q (.bl _) hr⟩
  · exact hy.elim⟩
/-! ### subscripts, slices -/
abbrev ixS (x y : AV) (R : AV → Prop) : Prop := match x, y with
  | .dat (.list ds), .dat (.int i) => ∃ d, atI ds i = some d ∧ R (.dat d)
  | .dat (.tuple ds), .dat (.int i) => ∃ d, atI ds i = some d ∧ R (.dat d)
  | .dat (.str z), .dat (.int i) => ∃ c, z.length ≤ 100000 ∧ atI z.cps.toList i = some c ∧ R (.dat (.str ⟨#[c]⟩))
  | _, _ => False
theorem DdA.at {K : PySem.W.Frag} {H : Hp} {vs : List V} {ds : List PyData} {i : Int} {d : PyData} (h : DdA K H vs ds) (e : atI ds i = some d) : ∃ v, atI vs i = some v ∧ Dd K H v d := by
  unfold atI at e ⊢
  rw [h.length]
  cases q : ixN ds.length i with
  | none => (rw [q] at e; cases e)
  | some j =>
    rw [q] at e
    exact h.get (show ds[j]? = some d from e)
theorem k_idx (hp : PlainIx b) (h : KE X w0 a ss fun x => KE X w0 b ss fun y => ixS x y R) : KE X w0 (.Subscript a b pos) ss R :=
  k_ix ix_seq hp (KE.weak h fun x hx => KE.weak hx fun y hy vx vy w Q ax ay q => by
    unfold ixS at hy
    split at hy
    · obtain ⟨d, e, hr⟩ := hy
      cases ay
      cases ax with
      | lst h1 d1 =>
        obtain ⟨v, e1, e2⟩ := d1.at e
        exact .inl ⟨_, _, _, v, rfl, rfl, .inl (.inl (w.sub _ _ h1)), e1, go q e2 hr⟩
    · obtain ⟨d, e, hr⟩ := hy
      cases ay
      cases ax with
      | tup h1 d1 =>
        obtain ⟨v, e1, e2⟩ := d1.at e
        exact .inr (.inl ⟨_, _, _, v, rfl, rfl, w.t h1, e1, go q e2 hr⟩)
    · obtain ⟨c, hz, e, hr⟩ := hy
      cases ay
      cases ax
      exact .inr (.inr ⟨_, _, c, rfl, rfl, sz hz, e, go q (.str _) hr⟩)
    · exact hy.elim)
/-- a slice's part -/
def KO (X : Cx) (w0 : Wl) (e : Option Expr) (ss : SS) (R : Option Int → Prop) : Prop := ∃ t : TO, PO X e t ∧ ∀ σ H (Q : Option Int → Hp → Prop), (∃ w : Wl, w.h = H ∧ Sl X.K w0 w σ ss ∧ ∀ o w', Le w w' → R o → Q o w'.h) → t σ H Q
theorem ko_none {R : Option Int → Prop} (h : R none) : KO X w0 none ss R := ⟨_, po_none, fun σ H Q ⟨w, e, hs, q⟩ => by
  subst e
  exact q none w (Le.refl w) h⟩
theorem ko_some {e : Expr} {R : Option Int → Prop} (h : KE X w0 e ss fun a => onInt a fun i => R (some i)) : KO X w0 (some e) ss R := ⟨_, po_some h, fun σ H Q ⟨w, e, hs, q⟩ => ⟨w, e, hs, fun v a w1 l1 hv hk => by
  obtain ⟨i, rfl, hi⟩ := hk.of
  cases hv
  exact ⟨i, rfl, q (some i) w1 l1 hi⟩⟩⟩
def anO (X : Cx) (w0 : Wl) (e : Option Expr) (ss : SS) : TO := fun σ H Q => ∃ R, KO X w0 e ss R ∧ ∃ w : Wl, w.h = H ∧ Sl X.K w0 w σ ss ∧ ∀ o w', Le w w' → R o → Q o w'.h
theorem po_an {e : Option Expr} : PO X e (anO X w0 e ss) := ⟨fun pins s σ H Q I ⟨R, ⟨t, h, k⟩, q⟩ => h.run pins s σ H Q I (k σ H Q q)⟩
def cutD (ds : List PyData) (lo hi : Option Int) : List PyData := (ds.drop (HT.sIx ds.length 0 lo)).take (HT.sIx ds.length ds.length hi - HT.sIx ds.length 0 lo)
theorem DdA.cut {K : PySem.W.Frag} {H : Hp} {vs : List V} {ds : List PyData} (h : DdA K H vs ds) (lo hi : Option Int) : DdA K H (cutV vs lo hi) (cutD ds lo hi) := by
  unfold cutV cutD
  rw [h.length]
  exact (h.drop _).take _
abbrev slS (x : AV) (lo hi : Option Int) (R : AV → Prop) : Prop := match x with
  | .dat (.list ds) => R (.dat (.list (cutD ds lo hi)))
  | .dat (.tuple ds) => R (.dat (.tuple (cutD ds lo hi)))
  | .dat (.str z) => z.length ≤ 100000 ∧ R (.dat (.str (cutS z lo hi)))
  | .scr ns => R (.dat (.list ((cutD (ns.map .int) lo hi))))
  | _ => False
theorem cut_whole {α : Type} (xs : List α) (lo hi : Option Int) (h : HT.sIx xs.length 0 lo = 0 ∧ HT.sIx xs.length xs.length hi = xs.length) : (xs.drop (HT.sIx xs.length 0 lo)).take (HT.sIx xs.length xs.length hi - HT.sIx xs.length 0 lo) = xs := by
  rw [h.1, h.2, List.drop_zero, Nat.sub_zero, List.take_length]
theorem k_slc {lo hi : Option Expr} {p2 : Pos} (h : KE X w0 a ss fun x => KO X w0 lo ss fun l => KO X w0 hi ss fun u => slS x l u R) : KE X w0 (.Subscript a (.Slice lo hi none p2) pos) ss R :=
  PE.imp (pe_slice (SlR.or sl_list (SlR.or sl_tupA sl_str)) h (po_an (w0 := w0) (ss := ss)) (po_an (w0 := w0) (ss := ss))) fun σ H Q ⟨w, ew, hs, q⟩ => ⟨w, ew, hs, fun v a w1 l1 hv hk => ⟨_, hk, w1, rfl, hs.mono l1, fun l w2 l2 hk2 => ⟨_, hk2, w2, rfl, (hs.mono l1).mono l2, fun u w3 l3 hk3 => by
    have hv3 := (hv.mono l2).mono l3
    have q' : ∀ v a w', Le w3 w' → Av X.K w' v a → R a → Q v w'.h := fun v a w' l x r => q v a w' (l1.trans (l2.trans (l3.trans l))) x r
    unfold slS at hk3
    split at hk3
    · cases hv3 with
      | lst h1 d1 => exact .inl ⟨_, _, rfl, .inl (.inl (w3.sub _ _ h1)), Le.lst (d1.cut l u) hk3 q'⟩
    · cases hv3 with
      | tup h1 d1 =>
        refine .inr (.inl ⟨_, _, rfl, w3.t h1, fun e => ?_, fun _ => Le.tup (d1.cut l u) hk3 q'⟩)
        rw [show cutD _ l u = _ from cut_whole _ l u (by rw [← d1.length]; exact e)] at hk3
        exact go q' (.tup h1 d1) hk3
    · obtain ⟨hz, hr⟩ := hk3
      cases hv3
      exact .inr (.inr ⟨_, rfl, sz hz, go q' (.str _) hr⟩)
    · obtain ⟨p, rfl, hp⟩ := hv3
      rename_i ns
      refine .inl ⟨_, _, rfl, ex_l w3.sub hp, fun p hp => ?_⟩
      have hd : DdA X.K w3.g (ns.map V.int) (ns.map .int) := DdA.ofInts ns
      exact Le.lst (hd.cut l u) hk3 q' p hp
    · exact hk3.elim⟩⟩⟩
/-! ### built-ins -/
theorem CallR.or {f : Value} {r r' : List V → Hp → VK → Prop} (h : CallR X f r) (h' : CallR X f r') : CallR X f (fun xs H Q => r xs H Q ∨ r' xs H Q) := fun pins s σ H xs us Q I rx q =>
  q.elim (h pins s σ H xs us Q I rx) (h' pins s σ H xs us Q I rx)
/-- a built-in's rule by data -/
def DCl (X : Cx) (f : Value) (S : List AV → (AV → Prop) → Prop) : Prop := ∃ r, CallR X f r ∧ ∀ xs R, S xs R → DC X.K r xs R
theorem k_cB {S : List AV → (AV → Prop) → Prop} {id : String} {e : Expr} {es : List Expr} {x : Str} {p pos : Pos} (hc : DCl X (.builtin id) S) (hg : Gl X x) (hm : X.mg x = none) (hv : bootBuiltins x = some (.builtin id)) (h : KA X w0 (e :: es) ss fun as => S as R)
    (hn : x ≠ "__name__" := by decide) (hdb : (x == ("__debug__" : Str)) = false := by decide)
    (he : starEach (e :: es) X.env = (false, eval e X.env) :: starEach es X.env := by rfl) (hpl : (backTo pos (starEach es X.env)).any (·.1) = false := by rfl) : KE X w0 (.Call (.Name x p) (e :: es) [] pos) ss R := by
  obtain ⟨r, hr, hk⟩ := hc
  exact k_callB hr hg hm hv (PA.imp h fun σ H Q ⟨w, ew, hs, q⟩ => ⟨w, ew, hs, fun vs as w' l x y => q vs as w' l x (hk as R y)⟩) hn hdb he hpl
theorem k_cT {S : List AV → (AV → Prop) → Prop} {T : String} {e : Expr} {es : List Expr} {x : Str} {p pos : Pos} (hc : DCl X (.type T) S) (hg : Gl X x) (hm : X.mg x = none) (hv : bootBuiltins x = some (.type T)) (h : KA X w0 (e :: es) ss fun as => S as R)
    (hn : x ≠ "__name__" := by decide) (hdb : (x == ("__debug__" : Str)) = false := by decide)
    (he : starEach (e :: es) X.env = (false, eval e X.env) :: starEach es X.env := by rfl) (hpl : (backTo pos (starEach es X.env)).any (·.1) = false := by rfl) : KE X w0 (.Call (.Name x p) (e :: es) [] pos) ss R := by
  obtain ⟨r, hr, hk⟩ := hc
  exact k_callTy hr hg hm hv (PA.imp h fun σ H Q ⟨w, ew, hs, q⟩ => ⟨w, ew, hs, fun vs as w' l x y => q vs as w' l x (hk as R y)⟩) hn hdb he hpl
theorem AvA.one {K : PySem.W.Frag} {w : Wl} {vs : List V} {a : AV} (h : AvA K w vs [a]) : ∃ v, vs = [v] ∧ Av K w v a := by
  cases h with
  | cons x t =>
    cases t
    exact ⟨_, rfl, x⟩
theorem AvA.two {K : PySem.W.Frag} {w : Wl} {vs : List V} {a b : AV} (h : AvA K w vs [a, b]) : ∃ v u, vs = [v, u] ∧ Av K w v a ∧ Av K w u b := by
  cases h with
  | cons x t =>
    obtain ⟨u, rfl, hu⟩ := t.one
    exact ⟨_, u, rfl, x, hu⟩
abbrev lenS : List AV → (AV → Prop) → Prop
  | [.dat (.list ds)], R => R (.dat (.int ds.length))
  | [.dat (.tuple ds)], R => R (.dat (.int ds.length))
  | [.dat (.str z)], R => z.length ≤ 100000 ∧ R (.dat (.int z.length))
  | [.buf ds], R => R (.dat (.int ds.length))
  | [.scr ns], R => R (.dat (.int ns.length))
  | _, _ => False
theorem dl_len : DCl X (.builtin "len") lenS := ⟨_, CallR.or call_len_seq call_len_str, fun xs R hy vs w Q av q => by
  unfold lenS at hy
  split at hy
  · obtain ⟨v, rfl, hv⟩ := av.one
    cases hv with
    | lst h1 d1 => exact .inl ⟨_, _, rfl, .inl (.inl (.inl (w.sub _ _ h1))), go q (.int _) (by rw [d1.length]; exact hy)⟩
  · obtain ⟨v, rfl, hv⟩ := av.one
    cases hv with
    | tup h1 d1 => exact .inl ⟨_, _, rfl, .inr (w.t h1), go q (.int _) (by rw [d1.length]; exact hy)⟩
  · obtain ⟨v, rfl, hv⟩ := av.one
    cases hv
    exact .inr ⟨_, rfl, sz hy.1, go q (.int _) hy.2⟩
  · obtain ⟨v, rfl, p, us, rfl, h1, h2, d1⟩ := av.one
    exact .inl ⟨_, _, rfl, .inl (.inl (.inl h1)), go q (.int _) (by rw [d1.length]; exact hy)⟩
  · obtain ⟨v, rfl, p, rfl, h1⟩ := av.one
    exact .inl ⟨_, _, rfl, .inl (ex_l w.sub h1), go q (.int _) (by rw [List.length_map]; exact hy)⟩
  · exact hy.elim⟩
abbrev int2S (f : Int → Int → Int) : List AV → (AV → Prop) → Prop
  | [.dat (.int i), .dat (.int j)], R => R (.dat (.int (f i j)))
  | _, _ => False
theorem dl_max (hc : X.calm = true) : DCl X (.builtin "max") (int2S fun i j => if j > i then j else i) := ⟨_, call_max2 hc, fun xs R hy vs w Q av q => by
  unfold int2S at hy
  split at hy
  · obtain ⟨v, u, rfl, hv, hu⟩ := av.two
    cases hv
    cases hu
    exact ⟨_, _, rfl, go q (.int _) hy⟩
  · exact hy.elim⟩
theorem dl_min (hc : X.calm = true) : DCl X (.builtin "min") (int2S fun i j => if j < i then j else i) := ⟨_, call_min2 hc, fun xs R hy vs w Q av q => by
  unfold int2S at hy
  split at hy
  · obtain ⟨v, u, rfl, hv, hu⟩ := av.two
    cases hv
    cases hu
    exact ⟨_, _, rfl, go q (.int _) hy⟩
  · exact hy.elim⟩
abbrev intBS : List AV → (AV → Prop) → Prop
  | [.dat (.bool b)], R => R (.dat (.int (if b then 1 else 0)))
  | [.dat (.int i)], R => R (.dat (.int i))
  | _, _ => False
theorem dl_int : DCl X (.type "int") intBS := ⟨_, call_int1, fun xs R hy vs w Q av q => by
  unfold intBS at hy
  split at hy
  · obtain ⟨v, rfl, hv⟩ := av.one
    cases hv
    exact .inr ⟨_, rfl, go q (.int _) hy⟩
  · obtain ⟨v, rfl, hv⟩ := av.one
    cases hv
    exact .inl ⟨_, rfl, go q (.int _) hy⟩
  · exact hy.elim⟩
abbrev allS : List AV → (AV → Prop) → Prop
  | [.dat (.list ds)], R => ∃ bs : List Bool, ds = bs.map .bool ∧ R (.dat (.bool (bs.all id)))
  | _, _ => False
theorem dl_all (hc : X.calm = true) : DCl X (.builtin "all") allS := ⟨_, cr_all hc, fun xs R hy vs w Q av q => by
  unfold allS at hy
  split at hy
  · obtain ⟨v, rfl, hv⟩ := av.one
    obtain ⟨bs, rfl, hr⟩ := hy
    cases hv with
    | lst h1 d1 =>
      rw [d1.bls] at h1
      exact ⟨_, bs, rfl, .inl (.inl (w.sub _ _ h1)), go q (.bl _) hr⟩
  · exact hy.elim⟩
abbrev listS : List AV → (AV → Prop) → Prop
  | [.dat (.list ds)], R => R (.dat (.list ds))
  | [.dat (.tuple ds)], R => R (.dat (.list ds))
  | _, _ => False
theorem dl_list : DCl X (.type "list") listS := ⟨_, call_list_of, fun xs R hy vs w Q av q => by
  unfold listS at hy
  split at hy
  · obtain ⟨v, rfl, hv⟩ := av.one
    cases hv with
    | lst h1 d1 => exact ⟨_, _, rfl, .inl (.inl (.inl (w.sub _ _ h1))), Le.lst d1 hy q⟩
  · obtain ⟨v, rfl, hv⟩ := av.one
    cases hv with
    | tup h1 d1 => exact ⟨_, _, rfl, .inr (w.t h1), Le.lst d1 hy q⟩
  · exact hy.elim⟩
abbrev sortedTS : List AV → (AV → Prop) → Prop
  | [.dat (.list ds)], R => ∃ xs : List Str, ds = xs.map .str ∧ xs.length < 64 ∧ ∀ ys : List Str, ys.Perm xs → sortedS ys = true → R (.dat (.list (ys.map .str)))
  | _, _ => False
theorem dl_sorted : DCl X (.builtin "sorted") sortedTS := ⟨_, cr_sortedS, fun xs R hy vs w Q av q => by
  unfold sortedTS at hy
  split at hy
  · obtain ⟨v, rfl, hv⟩ := av.one
    obtain ⟨ys, rfl, hz, hr⟩ := hy
    cases hv with
    | lst h1 d1 =>
      rw [d1.strs] at h1
      exact ⟨_, ys, rfl, .inl (.inl (w.sub _ _ h1)), hz, fun zs p hp hs hf => Le.lst (DdA.ofStrs zs) (hr zs hp hs) q p hf⟩
  · exact hy.elim⟩
/-! ### isinstance -/
def tyD : PyData → String
  | .none => "NoneType"
  | .bool _ => "bool"
  | .int _ => "int"
  | .str _ => "str"
  | .list _ => "list"
  | .tuple _ => "tuple"
  | .dict _ => "dict"
theorem Dd.ty {K : PySem.W.Frag} {H : Hp} {v : V} {d : PyData} (h : Dd K H v d) : TyX K H v (.type (tyD d)) := by
  cases h with
  | non => exact .base .non
  | bl b => exact .base (.bl b)
  | int i => exact .base (.int i)
  | str x => exact .base (.str x)
  | lst h d => exact .base (.lst h)
  | tup h d =>
    rcases h with (h | ⟨o, h⟩) | ⟨o, its, n, h, hc, _⟩
    · exact .base (.tup h)
    · exact .fTuple h
    · exact .kTuple h hc
  | dic h => exact .base (.dK h)
/-- a built-in class as the second argument -/
theorem k_isi {T : String} {e : Expr} {x : Str} {p p2 pos : Pos} (hg : Gl X "isinstance") (hm : X.mg "isinstance" = none) (hg2 : Gl X x) (hm2 : X.mg x = none) (hv2 : bootBuiltins x = some (.type T))
    (h : KE X w0 e ss fun a => onDat a fun d => ∃ c, kitB (tyD d) T = some c ∧ R (.dat (.bool c))) (hn : x ≠ "__name__" := by decide) (hdb : (x == ("__debug__" : Str)) = false := by decide)
    (he : starEach [e, .Name x p2] X.env = (false, eval e X.env) :: starEach [.Name x p2] X.env := by rfl) (hpl : (backTo pos (starEach [.Name x p2] X.env)).any (·.1) = false := by rfl)
    (he2 : starEach [.Name x p2] X.env = (false, eval (.Name x p2) X.env) :: starEach [] X.env := by rfl) : KE X w0 (.Call (.Name "isinstance" p) [e, .Name x p2] [] pos) ss R :=
  PE.imp (pe_callB call_isi hg hm (by decide +kernel) (pa_cons h (pa_cons (pe_bltn hg2 hm2 hv2 (v := .ty T) rfl hn hdb) pa_nil he2) he) (by decide) (by decide) he hpl) fun σ H Q ⟨w, ew, hs, q⟩ => ⟨w, ew, hs, fun v a w1 l1 hv hk => by
    obtain ⟨d, rfl, c, hc, hr⟩ := hk.of
    exact ⟨v, .ty T, _, _, c, rfl, .ty T, Dd.ty (Dd.mono w1.sub hv), kit_ty hc, q (.bl c) (.dat (.bool c)) w1 l1 (.bl c) hr⟩⟩
/-! ### chains -/
theorem k_chain {op op' : CmpOp} {c : Expr} {S S' : AV → AV → (Bool → Prop) → Prop} (hc : DCmp X op S) (hc' : DCmp X op' S') (h : KE X w0 a ss fun x => KE X w0 b ss fun y => S x y fun t => iteP t (KE X w0 c ss fun z => S' y z fun u => R (.dat (.bool u))) (R (.dat (.bool false))))
    (hm : lastMarks [op, op'] [b, c] = false := by with_unfolding_all rfl) : KE X w0 (.Compare a [op, op'] [b, c] pos) ss R := by
  obtain ⟨r, ho, hk⟩ := hc
  obtain ⟨r', ho', hk'⟩ := hc'
  refine PE.imp (pe_chain ho ho' h (pe_an (w0 := w0) (ss := ss)) (pe_an (w0 := w0) (ss := ss)) hm) fun σ H Q ⟨w, ew, hs, q⟩ => ⟨w, ew, hs, fun v x w1 l1 hv hb => ⟨_, hb, w1, rfl, hs.mono l1, fun v2 y w2 l2 hv2 hS => ?_⟩⟩
  refine hk x y (fun t => onBool t fun t => iteP t (KE X w0 c ss fun z => S' y z fun u => R (.dat (.bool u))) (R (.dat (.bool false)))) hS v v2 w2 _ (hv.mono l2) hv2 fun v3 t w3 l3 hv3 ht => ?_
  obtain ⟨t, rfl, ht⟩ := ht.of
  cases hv3
  refine ⟨t, rfl, ?_⟩
  cases t
  · exact iteF (q (.bl false) (.dat (.bool false)) w3 (l1.trans (l2.trans l3)) (.bl _) ht)
  · refine iteT ⟨_, ht, w3, rfl, (hs.mono l1).mono (l2.trans l3), fun v4 z w4 l4 hv4 hS' => ?_⟩
    exact hk' y z R hS' v2 v4 w4 Q (hv2.mono (l3.trans l4)) hv4 fun v5 a5 w5 l5 hv5 r5 => q v5 a5 w5 (l1.trans (l2.trans (l3.trans (l4.trans l5)))) hv5 r5
end
end Kp


namespace Kp
open PySem PySem.Spec PyProof.Rows L2
/-! ### what is walked, as data -/
def WalkD (K : PySem.W.Frag) (w : Wl) (J : It) (ds : List PyData) : Prop := ∀ w' : Wl, Ex w.g w'.g → ∀ i : Nat,
  (∀ d, ds[i]? = some d → J.go i w'.h ∧ ∀ x H', J.yld i w'.h x H' → ∃ w'' : Wl, w''.h = H' ∧ Le w' w'' ∧ Dd K w''.g x d) ∧ (ds.length ≤ i → J.stop i w'.h)
def iOf (K : PySem.W.Frag) (w0 : Wl) (ss : SS) (R : List PyData → Prop) : TI := fun σ H RR => ∃ w : Wl, w.h = H ∧ Sl K w0 w σ ss ∧ ∀ J ds w', Le w w' → WalkD K w' J ds → R ds → RR J w'.h
abbrev KI (X : Cx) (w0 : Wl) (tg e : Expr) (ss : SS) (R : List PyData → Prop) : Prop := PI X tg e (iOf X.K w0 ss R)
section
variable {X : Cx} {w0 : Wl} {ss : SS} {a b tg : Expr} {pos : Pos}
theorem PI.imp {e : Expr} {t t' : TI} (h : PI X tg e t) (k : ∀ σ H R, t' σ H R → t σ H R) : PI X tg e t' := ⟨fun pins s σ H R I q => h.run pins s σ H R I (k σ H R q)⟩
theorem walk_list {K : PySem.W.Frag} {w : Wl} {p : Addr} {vs : List V} {ds : List PyData} (h : SqL K w.g p vs) (hd : DdA K w.g vs ds) : WalkD K w (Itl K p) ds := fun w' e i => by
  have h' : SqL K w'.h p vs := ex_l w'.sub (ex_l e h)
  refine ⟨fun d hi => ?_, fun hl => ⟨vs, h', by rw [hd.length]; exact hl⟩⟩
  obtain ⟨v, hv, q⟩ := hd.get hi
  refine ⟨⟨vs, v, h', hv⟩, fun x H' y => ?_⟩
  obtain ⟨rfl, y⟩ := y
  have := y vs h'
  rw [hv] at this
  cases this
  exact ⟨w', rfl, Le.refl w', q.mono e⟩
theorem walk_tup {K : PySem.W.Frag} {w : Wl} {p : Addr} {vs : List V} {ds : List PyData} (h : SqT K w.g p vs) (hd : DdA K w.g vs ds) : WalkD K w (Itt K p) ds := fun w' e i => by
  have h' : SqT K w'.h p vs := ex_t w'.sub (ex_t e h)
  refine ⟨fun d hi => ?_, fun hl => ⟨vs, h', by rw [hd.length]; exact hl⟩⟩
  obtain ⟨v, hv, q⟩ := hd.get hi
  refine ⟨⟨vs, v, h', hv⟩, fun x H' y => ?_⟩
  obtain ⟨rfl, y⟩ := y
  have := y vs h'
  rw [hv] at this
  cases this
  exact ⟨w', rfl, Le.refl w', q.mono e⟩
def rangeD (lo : Int) (n : Nat) : List PyData := (List.range n).map fun (i : Nat) => PyData.int (lo + (i : Int))
theorem walk_range {K : PySem.W.Frag} {w : Wl} {lo : Int} {n : Nat} : WalkD K w (Itr lo n) (rangeD lo n) := fun w' e i => by
  have hl : (rangeD lo n).length = n := by unfold rangeD; rw [List.length_map, List.length_range]
  refine ⟨fun d hi => ?_, fun h => by rw [hl] at h; exact h⟩
  have hlt : i < n := by
    have this := (List.getElem?_eq_some_iff.mp hi).1
    rw [hl] at this
    exact this
  have hd : d = .int (lo + i) := by
    unfold rangeD at hi
    rw [List.getElem?_map, List.getElem?_range hlt] at hi
    exact (Option.some.inj hi).symm
  subst hd
  refine ⟨hlt, fun x H' y => ?_⟩
  obtain ⟨rfl, rfl⟩ := y
  exact ⟨w', rfl, Le.refl w', .int _⟩
def signsD (z : Str) : List PyData := z.cps.toList.map fun c => .str ⟨#[c]⟩
theorem walk_str {K : PySem.W.Frag} {w : Wl} {z : Str} : WalkD K w (Its z) (signsD z) := fun w' e i => by
  have hl : (signsD z).length = z.cps.size := by unfold signsD; rw [List.length_map, Array.length_toList]
  refine ⟨fun d hi => ?_, fun h => by rw [hl] at h; exact h⟩
  have hlt : i < z.cps.size := by
    have this := (List.getElem?_eq_some_iff.mp hi).1
    rw [hl] at this
    exact this
  refine ⟨hlt, fun x H' y => ?_⟩
  obtain ⟨rfl, c, hc, rfl⟩ := y
  unfold signsD at hi
  rw [List.getElem?_map, Array.getElem?_toList, hc] at hi
  cases hi
  exact ⟨w', rfl, Le.refl w', .str _⟩
theorem walk_zipT {K : PySem.W.Frag} {w : Wl} {p q : Addr} {vs us : List V} {ds es : List PyData} (h : SqT K w.g p vs) (hd : DdA K w.g vs ds) (h2 : SqT K w.g q us) (hd2 : DdA K w.g us es) (hl : ds.length = es.length) :
    WalkD K w (RZ.ItzT K p q) ((ds.zip es).map fun x => .tuple [x.1, x.2]) := fun w' e i => by
  have h' : SqT K w'.h p vs := ex_t w'.sub (ex_t e h)
  have h2' : SqT K w'.h q us := ex_t w'.sub (ex_t e h2)
  refine ⟨fun d hi => ?_, fun hz => ⟨vs, us, h', h2', .inl ?_⟩⟩
  · rw [List.getElem?_map] at hi
    cases hz : (ds.zip es)[i]? with
    | none => rw [hz] at hi; cases hi
    | some z =>
      rw [hz] at hi
      cases hi
      obtain ⟨z1, z2⟩ := List.getElem?_zip_eq_some.mp hz
      obtain ⟨v, hv, q1⟩ := hd.get z1
      obtain ⟨u, hu, q2⟩ := hd2.get z2
      refine ⟨⟨vs, us, v, u, h', h2', hv, hu⟩, fun x H' y => ?_⟩
      obtain ⟨T, x1, y1, rfl, hT, rfl, k1, k2⟩ := y
      have e1 := k1 vs h'
      have e2 := k2 us h2'
      rw [hv] at e1
      rw [hu] at e2
      cases e1
      cases e2
      have le := Le.put (o := .tup [v, u]) hT
      exact ⟨w'.put T (.tup [v, u]), rfl, le, .tup (.inl (.inl upd_same)) (.cons ((q1.mono e).mono le.g) (.cons ((q2.mono e).mono le.g) .nil))⟩
  · rw [List.length_map, List.length_zip, ← hl, Nat.min_self] at hz
    rw [hd.length]
    exact hz
def enumD (ds : List PyData) : List PyData := ds.zipIdx.map fun x => .tuple [.int (x.2 : Nat), x.1]
theorem walk_enum {K : PySem.W.Frag} {w : Wl} {p : Addr} {vs : List V} {ds : List PyData} (h : SqL K w.g p vs) (hd : DdA K w.g vs ds) : WalkD K w (Ite K p) (enumD ds) := fun w' e i => by
  have h' : SqL K w'.h p vs := ex_l w'.sub (ex_l e h)
  refine ⟨fun d hi => ?_, fun hz => ⟨vs, h', ?_⟩⟩
  · unfold enumD at hi
    rw [List.getElem?_map, List.getElem?_zipIdx] at hi
    cases hz : ds[i]? with
    | none => rw [hz] at hi; cases hi
    | some z =>
      rw [hz] at hi
      cases hi
      obtain ⟨v, hv, q1⟩ := hd.get hz
      refine ⟨⟨vs, v, h', hv⟩, fun x H' y => ?_⟩
      obtain ⟨T, x1, rfl, hT, rfl, k1⟩ := y
      have e1 := k1 vs h'
      rw [hv] at e1
      cases e1
      have le := Le.put (o := .tup [.int (i : Nat), v]) hT
      refine ⟨w'.put T (.tup [.int (i : Nat), v]), rfl, le, .tup (.inl (.inl upd_same)) (.cons ?_ (.cons ((q1.mono e).mono le.g) .nil))⟩
      show Dd K _ (.int (i : Nat)) (.int ((0 + i : Nat) : Int))
      rw [Nat.zero_add]
      exact .int _
  · unfold enumD at hz
    rw [List.length_map, List.length_zipIdx] at hz
    rw [hd.length]
    exact hz
abbrev onList (a : AV) (P : List PyData → Prop) : Prop := match a with | .dat (.list ds) => P ds | _ => False
abbrev onTup (a : AV) (P : List PyData → Prop) : Prop := match a with | .dat (.tuple ds) => P ds | _ => False
abbrev onStr (a : AV) (P : Str → Prop) : Prop := match a with | .dat (.str ds) => P ds | _ => False
theorem ki_list {R : List PyData → Prop} (h : KE X w0 a ss fun x => onList x R) : KI X w0 tg a ss R := PI.imp (pi_list h) fun σ H RR ⟨w, ew, hs, q⟩ => ⟨w, ew, hs, fun v x w1 l1 hv hk => by
  have hk : onList x R := hk
  unfold onList at hk
  split at hk
  · cases hv with
    | lst h1 d1 => exact ⟨_, rfl, ⟨_, .inl (.inl (w1.sub _ _ h1))⟩, q _ _ w1 l1 (walk_list (.inl (.inl h1)) d1) hk⟩
  · exact hk.elim⟩
theorem ki_tup {R : List PyData → Prop} (h : KE X w0 a ss fun x => onTup x R) : KI X w0 tg a ss R := PI.imp (pi_tup h) fun σ H RR ⟨w, ew, hs, q⟩ => ⟨w, ew, hs, fun v x w1 l1 hv hk => by
  have hk : onTup x R := hk
  unfold onTup at hk
  split at hk
  · cases hv with
    | tup h1 d1 => exact ⟨_, rfl, ⟨_, w1.t h1⟩, q _ _ w1 l1 (walk_tup h1 d1) hk⟩
  · exact hk.elim⟩
theorem ki_str {R : List PyData → Prop} (h : KE X w0 a ss fun x => onStr x fun z => R (signsD z)) : KI X w0 tg a ss R := PI.imp (pi_str h) fun σ H RR ⟨w, ew, hs, q⟩ => ⟨w, ew, hs, fun v x w1 l1 hv hk => by
  have hk : onStr x (fun z => R (signsD z)) := hk
  unfold onStr at hk
  split at hk
  · cases hv
    exact ⟨_, rfl, q _ _ w1 l1 walk_str hk⟩
  · exact hk.elim⟩
theorem ki_rng1 {p : Pos} {R : List PyData → Prop} (hg : Gl X "range") (hm : X.mg "range" = none) (h : KE X w0 a ss fun x => onInt x fun n => -(2 ^ 62) ≤ n ∧ n < 2 ^ 62 ∧ R (rangeD 0 n.toNat)) (hs : starEach [a] X.env = [(false, eval a X.env)] := by rfl) : KI X w0 tg (.Call (.Name "range" p) [a] [] pos) ss R :=
  PI.imp (pi_range1 hg hm (ka_cons (R := fun as => ∃ n : Int, as = [.dat (.int n)] ∧ -(2 ^ 62) ≤ n ∧ n < 2 ^ 62 ∧ R (rangeD 0 n.toNat)) (KE.weak h fun x hx => ka_nil (by
    obtain ⟨n, rfl, k⟩ := hx.of
    exact ⟨n, rfl, k⟩)) hs) hs) fun σ H RR ⟨w, ew, hs, q⟩ => ⟨w, ew, hs, fun vs as w1 l1 hv hk => by
    obtain ⟨n, rfl, k1, k2, k3⟩ := hk
    obtain ⟨v, rfl, hv1⟩ := hv.one
    cases hv1
    exact ⟨n, rfl, k1, k2, q _ _ w1 l1 walk_range k3⟩⟩
theorem ki_rng2 {p : Pos} {R : List PyData → Prop} (hg : Gl X "range") (hm : X.mg "range" = none) (h : KA X w0 [a, b] ss fun as => ∃ lo n : Int, as = [.dat (.int lo), .dat (.int n)] ∧ (-(2 ^ 62) ≤ lo ∧ lo < 2 ^ 62 ∧ -(2 ^ 62) ≤ n ∧ n < 2 ^ 62) ∧ R (rangeD lo (n - lo).toNat))
    (hs : starEach [a, b] X.env = [(false, eval a X.env), (false, eval b X.env)] := by rfl) (hs2 : starEach [b] X.env = [(false, eval b X.env)] := by rfl) : KI X w0 tg (.Call (.Name "range" p) [a, b] [] pos) ss R :=
  PI.imp (pi_range2 hg hm h hs hs2) fun σ H RR ⟨w, ew, hs, q⟩ => ⟨w, ew, hs, fun vs as w1 l1 hv hk => by
    obtain ⟨lo, n, rfl, k1, k3⟩ := hk
    obtain ⟨v, u, rfl, hv1, hu⟩ := hv.two
    cases hv1
    cases hu
    exact ⟨lo, n, rfl, k1, q _ _ w1 l1 walk_range k3⟩⟩
theorem ki_zip {p tpos : Pos} {elts : List Expr} {kk : Nat} {R : List PyData → Prop} (hg : Gl X "zip") (hm : X.mg "zip" = none) (h : KA X w0 [a, b] ss fun as => ∃ ds es : List PyData, as = [.dat (.tuple ds), .dat (.tuple es)] ∧ ds.length = es.length ∧ R ((ds.zip es).map fun x => .tuple [x.1, x.2]))
    (hs : starEach [a, b] X.env = (false, eval a X.env) :: starEach [b] X.env := by rfl) (hpl : (backTo pos (starEach [b] X.env)).any (·.1) = false := by rfl) : KI X w0 (.Tuple elts kk tpos) (.Call (.Name "zip" p) [a, b] [] pos) ss R :=
  PI.imp (RZ.pi_zipA hg hm h hs hpl) fun σ H RR ⟨w, ew, hs, q⟩ => ⟨w, ew, hs, fun vs as w1 l1 hv hk => by
    obtain ⟨ds, es, rfl, hl, k3⟩ := hk
    obtain ⟨v, u, rfl, hv1, hu⟩ := hv.two
    cases hv1 with
    | tup h1 d1 =>
      cases hu with
      | tup h2 d2 => exact ⟨_, _, _, _, rfl, .inr ⟨w1.t h1, w1.t h2, q _ _ w1 l1 (walk_zipT h1 d1 h2 d2 hl) k3⟩⟩⟩
theorem ki_enum {p tpos : Pos} {elts : List Expr} {kk : Nat} {R : List PyData → Prop} (hg : Gl X "enumerate") (hm : X.mg "enumerate" = none) (h : KE X w0 a ss fun x => onList x fun ds => R (enumD ds)) (hs : starEach [a] X.env = [(false, eval a X.env)] := by rfl) :
    KI X w0 (.Tuple elts kk tpos) (.Call (.Name "enumerate" p) [a] [] pos) ss R :=
  PI.imp (pi_enum hg hm (ka_cons (R := fun as => ∃ ds : List PyData, as = [.dat (.list ds)] ∧ R (enumD ds)) (KE.weak h fun x hx => ka_nil (by
    unfold onList at hx
    split at hx
    · exact ⟨_, rfl, hx⟩
    · exact hx.elim)) hs) hs) fun σ H RR ⟨w, ew, hs, q⟩ => ⟨w, ew, hs, fun vs as w1 l1 hv hk => by
    obtain ⟨ds, rfl, k3⟩ := hk
    obtain ⟨v, rfl, hv1⟩ := hv.one
    cases hv1 with
    | lst h1 d1 => exact ⟨_, _, rfl, .inl (.inl (w1.sub _ _ h1)), q _ _ w1 l1 (walk_enum (.inl (.inl h1)) d1) k3⟩⟩

/-! ### targets -/
/-- a target stores an item: what the state is then -/
structure TgOk (K : PySem.W.Frag) (w0 : Wl) (g : TG) (T : PyData → SS → (SS → Prop) → Prop) (vs : List Nat) : Prop where
  go : ∀ v d w σ ss (P : SS → Prop) (Q : L2.St → Hp → Prop), Dd K w.g v d → Sl K w0 w σ ss → T d ss P → (∀ σ' ss', Sl K w0 w σ' ss' → wipe σ' vs = wipe σ vs → P ss' → Q σ' w.h) → g v σ w.h Q
abbrev tg1 (j : Nat) (d : PyData) (ss : SS) (P : SS → Prop) : Prop := P (ss.set j (some (.dat d)))
theorem tgok1 {K : PySem.W.Frag} (j : Nat) : TgOk K w0 (gName j) (tg1 j) [j] := ⟨fun v d w σ ss P Q hd hs hT q => q _ _ (hs.set (a := .dat d) j rfl hd) (by
  show (σ.set j (some v)).set j none = σ.set j none
  rw [List.set_set]) hT⟩
abbrev tg2 (j k : Nat) (d : PyData) (ss : SS) (P : SS → Prop) : Prop := match d with | .tuple [d1, d2] => P ((ss.set j (some (.dat d1))).set k (some (.dat d2))) | _ => False
theorem tgok2 {K : PySem.W.Frag} (j k : Nat) (hjk : j ≠ k) : TgOk K w0 (gTup K 2 (gCons (gName j) (gCons (gName k) gNil))) (tg2 j k) [j, k] := ⟨fun v d w σ ss P Q hd hs hT q => by
  unfold tg2 at hT
  split at hT
  · rename_i d1 d2
    cases hd with
    | tup h1 a1 =>
      cases a1 with
      | cons b1 a1 =>
        cases a1 with
        | cons b2 a1 =>
          cases a1
          refine ⟨_, _, rfl, w.t h1, rfl, _, _, rfl, _, _, rfl, rfl, q _ _ ((hs.set (a := .dat d1) j rfl b1).set (a := .dat d2) k rfl b2) ?_ hT⟩
          show (((σ.set j _).set k _).set k none).set j none = (σ.set k none).set j none
          rw [List.set_set, List.set_comm _ _ hjk, List.set_set, List.set_comm _ _ (Ne.symm hjk)]
  · exact hT.elim⟩
/-! ### comprehensions -/
abbrev BE (X : Cx) (w0 : Wl) (scope : Scope) (e : Expr) (ss : SS) (R : AV → Prop) : Prop := ∀ (s : Shared) (H : Hp) (C : Addr) (cl : List (Str × Addr)) (fp : List Addr), KE (X.blk s H scope (compEnvC scope cl C X.env) fp) w0 e ss R
abbrev BT (X : Cx) (w0 : Wl) (scope : Scope) (e : Expr) (ss : SS) (R : Bool → Prop) : Prop := ∀ (s : Shared) (H : Hp) (C : Addr) (cl : List (Str × Addr)) (fp : List Addr), KT (X.blk s H scope (compEnvC scope cl C X.env) fp) w0 e ss R
def anBE (X : Cx) (w0 : Wl) (scope : Scope) (e : Expr) : TE := fun σ H Q => ∃ ss R, BE X w0 scope e ss R ∧ teOf X.K w0 ss R σ H Q
def anBT (X : Cx) (w0 : Wl) (scope : Scope) (e : Expr) : TT := fun σ H Q => ∃ ss R, BT X w0 scope e ss R ∧ ttOf X.K w0 ss R σ H Q
def wipeS : SS → List Nat → SS
  | ss, [] => ss
  | ss, v :: vs => (wipeS ss vs).set v none
theorem Sl.wipe {K : PySem.W.Frag} {w : Wl} {σ : L2.St} (h : Sl K w0 w σ ss) : ∀ vs, Sl K w0 w (L2.wipe σ vs) (wipeS ss vs)
  | [] => h
  | v :: vs => by
    have ih := Sl.wipe h vs
    have nb : ∀ {j : Nat} {a : AV}, ((wipeS ss vs).set v none)[j]? = some (some a) → v ≠ j := fun {j a} e z => by
      subst z
      rw [List.getElem?_set_self (set_lt e)] at e
      cases e
    refine ⟨ih.le, by show ((L2.wipe σ vs).set v none).length = ((wipeS ss vs).set v none).length; rw [List.length_set, List.length_set]; exact ih.len, fun j a e => ?_, fun j k ds es u hjk e1 e2 e3 => ?_, fun j ds p e1 e2 => ?_⟩
    · have n := nb e
      have e : ((wipeS ss vs).set v none)[j]? = some (some a) := e
      rw [List.getElem?_set_ne n] at e
      obtain ⟨x, h1, h2⟩ := ih.at_ j a e
      exact ⟨x, by show ((L2.wipe σ vs).set v none)[j]? = _; rw [List.getElem?_set_ne n]; exact h1, h2⟩
    · have n1 := nb e1
      have n2 := nb e2
      have e1 : ((wipeS ss vs).set v none)[j]? = _ := e1
      have e2 : ((wipeS ss vs).set v none)[k]? = _ := e2
      have e3 : ((L2.wipe σ vs).set v none)[j]? = _ := e3
      rw [List.getElem?_set_ne n1] at e1 e3
      rw [List.getElem?_set_ne n2] at e2
      show ((L2.wipe σ vs).set v none)[k]? ≠ _
      rw [List.getElem?_set_ne n2]
      exact ih.ap j k ds es u hjk e1 e2 e3
    · have n1 := nb e1
      have e1 : ((wipeS ss vs).set v none)[j]? = _ := e1
      have e2 : ((L2.wipe σ vs).set v none)[j]? = _ := e2
      rw [List.getElem?_set_ne n1] at e1 e2
      exact ih.fr j ds p e1 e2
/-- the tests of a comprehension: none, or one -/
abbrev testS (X : Cx) (w0 : Wl) (scope : Scope) (ifs : List Expr) (ss : SS) (Y N : Prop) : Prop := match ifs with
  | [] => Y
  | [c] => BT X w0 scope c ss fun b => iteP b Y N
  | _ => False
def ttS (X : Cx) (w0 : Wl) (scope : Scope) (ifs : List Expr) : TT := match ifs with
  | [] => tYes
  | [c] => anBT X w0 scope c
  | _ => fun _ _ _ => False
theorem pts_S {scope : Scope} {ifs : List Expr} (s : Shared) (H : Hp) (C : Addr) (cl : List (Str × Addr)) (fp : List Addr) : PTs (X.blk s H scope (compEnvC scope cl C X.env) fp) ifs (ttS X w0 scope ifs) := by
  match ifs with
  | [] => exact pts_nil
  | [c] => exact pts_one ⟨fun pins s' σ H' Q I ⟨_, _, h, q⟩ => (h s H C cl fp).run pins s' σ H' Q I q⟩
  | _ :: _ :: _ => exact ⟨fun pins s' σ H' Q I h => h.elim⟩
/-- P: what is made behind so many items -/
theorem kn_lc {elt iter : Expr} {ifs : List Expr} {scope : Scope} {own : List (Str × Nat)} {g : TG} {T : PyData → SS → (SS → Prop) → Prop} {R : List PyData → Prop} (hc : X.calm = true) (hN : X.N.Nodup) (ok : BlkOk X.N X.env.scope scope own)
    (hT : TgOk X.K w0 g T (own.map (·.2)))
    (hg : ∀ (s : Shared) (H : Hp) (C : Addr) (cl : List (Str × Addr)) (fp : List Addr), PG (X.blk s H scope (compEnvC scope cl C X.env) fp) tg g)
    (h : KI X w0 tg iter ss fun ds => ds.length ≤ 50000 ∧ ∃ P : Nat → List PyData → Prop, P 0 [] ∧
      (∀ i d acc, ds[i]? = some d → P i acc → T d (wipeS ss (own.map (·.2))) fun ss' => testS X w0 scope ifs ss' (BE X w0 scope elt ss' fun e => onDat e fun e => P (i + 1) (acc ++ [e])) (P (i + 1) acc)) ∧ ∀ es, P ds.length es → R es)
    (hs : ∀ x, foldedSetIterable iter X.env x = pure x := by intro _; rfl) : KN X w0 (.ListComp elt [⟨tg, iter, ifs, 0⟩] scope pos) ss R := by
  refine PE.imp (pe_lc hc hN h ok hg (pts_S (w0 := w0)) (te := anBE X w0 scope elt) (fun s H C cl fp => ⟨fun pins s' σ H' Q I ⟨_, _, hh, q⟩ => (hh s H C cl fp).run pins s' σ H' Q I q⟩) hs) fun σ H Q ⟨w, ew, hsl, q⟩ => ⟨w, ew, hsl, fun J ds w1 l1 walk hk D hD => ?_⟩
  obtain ⟨hz, P, p0, pt, pe⟩ := hk
  have hsl1 := hsl.mono l1
  have hgD : w1.g D = none := w1.gfree hD
  have hwD : w.h D = none := by
    cases e : w.h D with
    | none => rfl
    | some o =>
      have := l1.h D o e
      rw [hD] at this
      cases this
  let Inv := fun (i : Nat) (H' : Hp) => ∃ (w' : Wl) (vs : List V) (es : List PyData), w'.h = H' ∧ Le w1 w' ∧ w'.h D = some (.lst vs) ∧ w'.g D = none ∧ DdA X.K w'.g vs es ∧ P i es ∧ vs.length ≤ i
  refine ⟨fun i m H' => m = ds.length - i ∧ i ≤ ds.length ∧ Inv i H', ⟨ds.length, by simp, Nat.zero_le _, w1.own D (.lst []) hgD, [], [], rfl, Le.own hD, upd_same, hgD, .nil, p0, Nat.le_refl 0⟩, ?_⟩
  rintro i m H' ⟨rfl, hi, w', vs, es, rfl, le, h1, h2, hd, hp, hv⟩
  by_cases hlt : i < ds.length
  · refine .inr ?_
    have hget : ds[i]? = some ds[i] := by simp [hlt]
    obtain ⟨hgo, hy⟩ := (walk w' le.g i).1 _ hget
    refine ⟨hgo, Inv (i + 1), fun H2 iv => ⟨ds.length - (i + 1), by omega, rfl, hlt, iv⟩, fun x H2 y => ?_⟩
    obtain ⟨w2, rfl, l2, hx⟩ := hy x H2 y
    have le2 := le.trans l2
    have D1 : w2.h D = some (.lst vs) := l2.h _ _ h1
    have D2 : w2.g D = none := l2.hid D (by rw [h1]; simp) h2
    refine hT.go x ds[i] w2 _ _ _ _ hx ((hsl1.mono le2).wipe _) (pt i _ es hget hp) fun σ2 ss2 hs2 hw2 k2 => ⟨by
      rw [hw2]
      exact wipe_idem _ _, ?_⟩
    have elt_ok : ∀ w3 : Wl, Le w2 w3 → BE X w0 scope elt ss2 (fun e => onDat e fun e => P (i + 1) (es ++ [e])) →
        anBE X w0 scope elt σ2 w3.h fun y H4 => ∃ acc, H4 D = some (.lst acc) ∧ acc.length < sizeLine ∧ Inv (i + 1) (upd H4 D (.lst (acc ++ [y]))) := fun w3 l3 he => by
      refine ⟨ss2, _, he, w3, rfl, hs2.mono l3, fun v a w4 l4 hv4 ha => ?_⟩
      obtain ⟨e, rfl, hP⟩ := ha.of
      have l34 := l3.trans l4
      have E1 : w4.h D = some (.lst vs) := l34.h _ _ D1
      have E2 : w4.g D = none := l34.hid D (by rw [D1]; simp) D2
      refine ⟨vs, E1, Nat.lt_of_le_of_lt (Nat.le_trans hv (Nat.le_of_lt (Nat.lt_of_lt_of_le hlt hz))) (by decide), w4.own D (.lst (vs ++ [v])) E2, vs ++ [v], es ++ [e], rfl, ⟨(le2.trans l34).g, fun b o eo => ?_, fun b b1 b2 => (le2.trans l34).hid b b1 b2⟩, upd_same, E2, ((hd.mono l2.g).mono l34.g).append (.cons hv4 .nil), hP, by rw [List.length_append]; exact Nat.succ_le_succ hv⟩
      show upd w4.h D _ b = some o
      rw [upd_ne (ne_of_none eo hD)]
      exact (le2.trans l34).h b o eo
    have no_ok : ∀ w3 : Wl, Le w2 w3 → P (i + 1) es → Inv (i + 1) w3.h := fun w3 l3 hP => ⟨w3, vs, es, rfl, le2.trans l3, l3.h _ _ D1, l3.hid D (by rw [D1]; simp) D2, (hd.mono l2.g).mono l3.g, hP, Nat.le_succ_of_le hv⟩
    unfold testS at k2
    unfold ttS
    split at k2
    · exact iteT (B := Inv (i + 1) w2.h) (elt_ok w2 (Le.refl _) k2)
    · refine ⟨ss2, _, k2, w2, rfl, hs2, fun b w3 l3 hb => ?_⟩
      cases b
      · exact iteF (no_ok w3 l3 hb)
      · exact iteT (elt_ok w3 l3 hb)
    · exact k2.elim
  · have e : i = ds.length := by omega
    subst e
    refine .inl ⟨(walk w' le.g ds.length).2 (Nat.le_refl _), ?_⟩
    exact q D vs es w' (l1.trans le) hwD h1 h2 hd (pe es hp)
where
  wipe_idem : ∀ (σ : L2.St) (vs : List Nat), L2.wipe (L2.wipe σ vs) vs = L2.wipe σ vs := by
    intro σ vs
    apply List.ext_getElem?
    intro i
    by_cases hi : i ∈ vs
    · have z : ∀ (τ : L2.St) (us : List Nat), i ∈ us → (L2.wipe τ us)[i]? = if i < τ.length then some none else none := by
        intro τ us
        induction us with
        | nil => intro h; cases h
        | cons u us ih =>
          intro h
          show ((L2.wipe τ us).set u none)[i]? = _
          by_cases hu : u = i
          · subst hu
            by_cases hl : u < τ.length
            · rw [List.getElem?_set_self (by rw [wipe_length]; exact hl), if_pos hl]
            · rw [List.getElem?_eq_none (by rw [List.length_set, wipe_length]; omega), if_neg hl]
          · rw [List.getElem?_set_ne hu]
            exact ih ((List.mem_cons.mp h).resolve_left fun q => hu q.symm)
      rw [z _ _ hi, z _ _ hi, wipe_length]
    · rw [wipe_out hi]
/-! ### for -/
theorem ks_for {iter : Expr} {body : List Stmt} {g : TG} {T : PyData → SS → (SS → Prop) → Prop} {vs : List Nat} {N : AN} (hp : PassesOwn (model X.prog X.w) X.A X.env X.xe) (hc : X.calm = true) (hT : TgOk X.K w0 g T vs) (hg : PG X tg g)
    (h : KI X w0 tg iter ss fun ds => ∃ I : Nat → SS → Prop, I 0 ss ∧ (∀ i d ss', ds[i]? = some d → I i ss' → T d ss' fun ss2 => KSs X w0 body ss2 { nx := I (i + 1), rt := N.rt, bk := N.nx, ct := I (i + 1) }) ∧ ∀ ss', I ds.length ss' → N.nx ss')
    (hs : ∀ x, foldedSetIterable iter X.env x = pure x := by intro _; rfl) : KS X w0 (.For tg iter body [] pos) ss N := by
  refine PS.imp (ps_for hp hc h hg (pss_an (w0 := w0)) hs) fun D σ H ⟨w, ew, hsl, d⟩ => ⟨w, ew, hsl, fun J ds w1 l1 walk hk => ?_⟩
  obtain ⟨I, i0, it, ie⟩ := hk
  refine ⟨fun i m σ' H' => m = ds.length - i ∧ i ≤ ds.length ∧ ∃ (ss' : SS) (w' : Wl), w'.h = H' ∧ Sl X.K w0 w' σ' ss' ∧ Ex w1.g w'.g ∧ I i ss', ⟨ds.length, by simp, Nat.zero_le _, ss, w1, rfl, hsl.mono l1, Ex.refl _, i0⟩, ?_⟩
  rintro i m σ' H' ⟨rfl, hi, ss', w', rfl, hs', eg, hI⟩
  by_cases hlt : i < ds.length
  · refine .inr ?_
    have hget : ds[i]? = some ds[i] := by simp [hlt]
    obtain ⟨hgo, hy⟩ := (walk w' eg i).1 _ hget
    refine ⟨hgo, fun σ2 H2 => ∃ (ss' : SS) (w' : Wl), w'.h = H2 ∧ Sl X.K w0 w' σ2 ss' ∧ Ex w1.g w'.g ∧ I (i + 1) ss', fun σ2 H2 iv => ⟨ds.length - (i + 1), by omega, rfl, hlt, iv⟩, fun x H2 y => ?_⟩
    obtain ⟨w2, rfl, l2, hx⟩ := hy x H2 y
    refine hT.go x ds[i] w2 _ _ _ _ hx (hs'.mono l2) (it i _ ss' hget hI) fun σ2 ss2 hs2 _ k2 => ?_
    have e2 : Ex w1.g w2.g := eg.trans l2.g
    refine ⟨ss2, _, k2, w2, rfl, hs2, ⟨fun σ3 ss3 w3 x3 s3 n3 => ⟨ss3, w3, rfl, s3, e2.trans x3, n3⟩, fun v a w3 x3 l3 a3 r3 => d.rt v a w3 (l1.g.trans (e2.trans x3)) l3 a3 r3, fun σ3 ss3 w3 x3 s3 n3 => d.nx σ3 ss3 w3 (l1.g.trans (e2.trans x3)) s3 n3, fun σ3 ss3 w3 x3 s3 n3 => ⟨ss3, w3, rfl, s3, e2.trans x3, n3⟩⟩⟩
  · have e : i = ds.length := by omega
    subst e
    exact .inl ⟨(walk w' eg ds.length).2 (Nat.le_refl _), d.nx σ' ss' w' (l1.g.trans eg) hs' (ie ss' hI)⟩
end
end Kp


namespace Kp
open PySem PySem.Spec PyProof.Rows L2
/-! ### a def of the text, by what it does to data -/
theorem AvA.length {K : PySem.W.Frag} {w : Wl} : ∀ {vs : List V} {as : List AV}, AvA K w vs as → vs.length = as.length
  | _, _, .nil => rfl
  | _, _, .cons _ t => congrArg (· + 1) (AvA.length t)
theorem AvA.get {K : PySem.W.Frag} {w : Wl} : ∀ {vs : List V} {as : List AV} {i : Nat} {a : AV}, AvA K w vs as → as[i]? = some a → ∃ v, vs[i]? = some v ∧ Av K w v a
  | _, _, _, _, .nil, q => by simp at q
  | _, _, 0, _, .cons x _, e => ⟨_, rfl, by rw [← Option.some.inj (show some _ = some _ from e)]; exact x⟩
  | _, _, i + 1, _, .cons _ t, e => AvA.get (i := i) t (by simpa using e)
/-- the state at the entry -/
def ss0 (n : Nat) (as : List AV) : SS := as.map some ++ List.replicate (n - as.length) none
theorem Sl.start {K : PySem.W.Frag} {w : Wl} {N : List Str} {vs : List V} {as : List AV} (h : AvA K w vs as) (hp : as.all AV.plain = true) : Sl K w w (L2.start N vs) (ss0 N.length as) := by
  have key : ∀ (i : Nat) (a : AV), (ss0 N.length as)[i]? = some (some a) → as[i]? = some a := fun i a e => by
    unfold ss0 at e
    by_cases hi : i < as.length
    · rw [List.getElem?_append_left (by simpa using hi), List.getElem?_map] at e
      cases q : as[i]? with
      | none => (rw [q] at e; cases e)
      | some b => rw [q] at e; cases e; rfl
    · rw [List.getElem?_append_right (by simpa using hi), List.getElem?_replicate] at e
      split at e <;> cases e
  have nb : ∀ (i : Nat) (ds : List PyData), (ss0 N.length as)[i]? ≠ some (some (AV.buf ds)) := fun i ds e => by
    have hm := List.mem_of_getElem? (key i _ e)
    have := List.all_eq_true.mp hp _ hm
    cases this
  refine ⟨Le.refl w, ?_, fun i a e => ?_, fun i j ds es v _ e => absurd e (nb i ds), fun i ds p e => absurd e (nb i ds)⟩
  · unfold L2.start ss0
    rw [List.length_append, List.length_append, List.length_map, List.length_map, List.length_replicate, List.length_replicate, h.length]
  · obtain ⟨v, hv, q⟩ := h.get (key i a e)
    refine ⟨v, ?_, q⟩
    unfold L2.start
    rw [List.getElem?_append_left (by rw [List.length_map]; exact (List.getElem?_eq_some_iff.mp hv).1), List.getElem?_map, hv]
    rfl
section
variable {base : Heap} {K : PySem.W.Frag} {w : World} {P : Program} {mg : Str → Option Value}
/-- the body's context -/
abbrev cxB (P : Program) (w : World) (K : PySem.W.Frag) (mg : Str → Option Value) (base : Heap) (N : List Str) (qual : Str) (scope : Scope) (f : Addr) (cd : Value) (A : Around) (outer : List Env) (s : Shared) (H : Hp) (E : XK) : Cx := (cxOf CX0 P w K mg base N qual scope f cd A outer s H E).nox
theorem okA {x qual : Str} {st : Stmt} {f : Addr} {fd : FuncData} {N ps : List Str} {k : Nat} {C : List AV → (AV → Prop) → Prop} (F : Fun K x qual st f fd) (S : FnScope N ps (defScope st)) (len : ∀ as R, C as R → as.length = ps.length)
    (hbody : ∀ (cdv : Value) (A : Around) (outer : List Env) (s : Shared) (H : Hp) (E : XK) (w0 : Wl) (as : List AV) (R : AV → Prop), Room k (A.deeper (envOfC qual (defScope st) s.heap.objs.size f cdv)) → C as R →
      KSs (cxB P w K mg base N qual (defScope st) f cdv A outer s H E) w0 (defBody st) (ss0 N.length as) { nx := fun _ => R (.dat .none), rt := R }) : FnOk P w K mg base CX0 (k + 1) f fd ps (spA K C) := by
  refine F.ok S (fun vs H Q E ⟨w0, as, R, e, hv, hc, q⟩ => by rw [hv.length]; exact len as R hc.2) fun cdv A outer s H vs Q E hr ⟨w0, as, R, e, hv, hc, q⟩ => ?_
  refine ⟨_, hbody cdv A outer s H E w0 as R hr hc.2, w0, e, Sl.start hv hc.1, ⟨fun σ' ss' w' _ hs hk => q .non (.dat .none) w' hs.le .non hk, fun v a w' _ hl ha hr => q v a w' hl ha hr, fun _ _ _ _ _ h => h.elim, fun _ _ _ _ _ h => h.elim⟩⟩
end
/-! ### append -/
section
variable {X : Cx} {w0 : Wl} {ss : SS}
theorem ks_app (i : Nat) {x : Str} {e : Expr} {p apos cpos pos : Pos} {ds : List PyData} {N : AN} (hN : X.N[i]? = some x) (hi : ss[i]? = some (some (.buf ds))) (hz : ds.length < 100000)
    (h : KE X w0 e ss fun a => onDat a fun d => N.nx (ss.set i (some (.buf (ds ++ [d])))))
    (hv : Vis X.env.scope x := by first | exact Or.inl rfl | exact Or.inr (Or.inl rfl) | exact Or.inr (Or.inr rfl)) (hd : (x == ("__debug__" : Str)) = false := by decide) (hcd : (x == ("__classdict__" : Str)) = false := by decide)
    (hbase : attributeBase (.Name x p) "append" X.env (eval (.Name x p) X.env) = eval (.Name x p) X.env := by rfl)
    (hfew : ((backTo cpos (starEach [e] X.env)).all (fun x => !x.1) && (backToKw cpos (keywordEach [] X.env)).all (fun x => x.1.isSome) && decide (([e] : List Expr).length + ([] : List Keyword).length + (if ([] : List Keyword).isEmpty then 0 else 1) < 30)) = true := by rfl)
    (hline : (apos.endLine == cpos.line) = true := by rfl) (hs : starEach [e] X.env = (false, eval e X.env) :: starEach [] X.env := by rfl) (hplain : (backTo cpos (starEach [] X.env)).any (·.1) = false := by rfl)
    (hsw : swapsWith (.Call (.Attribute (.Name x p) "append" apos) [e] [] cpos) none pos.line X.env = pure false := by rfl) : KS X w0 (.Expr (.Call (.Attribute (.Name x p) "append" apos) [e] [] cpos) pos) ss N := by
  refine PS.imp (ps_expr (pe_bm PySem.F.plainAttrs_list PySem.F.slot_list_append PySem.F.type_list_append mt_append (pe_var hN hv hd hcd) (pa_cons h pa_nil hs) hbase hfew hline hs hplain) hsw) fun D σ H ⟨w, ew, hsl, d⟩ => ?_
  subst ew
  obtain ⟨v, e1, q, us, rfl, h1, h2, h3⟩ := hsl.at_ i _ hi
  refine ⟨_, e1, .inl ⟨rfl, _, .inl (.inl h1)⟩, w, rfl, hsl, fun u a w1 l1 hu ha => ?_⟩
  obtain ⟨dd, rfl, hk⟩ := ha.of
  have g1 : w1.h q = some (.lst us) := l1.h _ _ h1
  have g2 : w1.g q = none := l1.hid q (by rw [h1]; simp) h2
  have hs1 := hsl.mono l1
  have h0 : w0.h q = none := hsl.fr i ds q hi e1
  have hdd := (h3.mono l1.g).append (.cons hu .nil)
  have hiL : i < ss.length := (List.getElem?_eq_some_iff.mp hi).1
  refine ⟨q, us, u, rfl, rfl, g1, Nat.lt_of_lt_of_le (by rw [h3.length]; exact hz) (by decide), ?_⟩
  refine d.nx σ _ (w1.own q (.lst (us ++ [u])) g2) l1.g ⟨⟨hs1.le.g, fun b o eb => ?_, hs1.le.hid⟩, by rw [List.length_set]; exact hs1.len, fun j b eb => ?_, fun j k es fs z hjk b1 b2 b3 => ?_, fun j es b b1 b2 => ?_⟩ hk
  · show upd w1.h q _ b = some o
    rw [upd_ne (ne_of_none eb h0)]
    exact hs1.le.h b o eb
  · by_cases hj : i = j
    · subst hj
      rw [List.getElem?_set_self hiL] at eb
      cases eb
      exact ⟨_, e1, q, us ++ [u], rfl, upd_same, g2, hdd⟩
    · rw [List.getElem?_set_ne hj] at eb
      obtain ⟨z, b1, b2⟩ := hs1.at_ j b eb
      refine ⟨z, b1, ?_⟩
      cases b with
      | dat _ => exact b2
      | pool => exact b2
      | scr _ => exact b2
      | err _ _ => exact b2
      | buf es =>
        obtain ⟨r, zs, rfl, c1, c2, c3⟩ := b2
        refine ⟨r, zs, rfl, ?_, c2, c3⟩
        have z : r ≠ q := fun z => by
          subst z
          exact hs1.ap i j ds es _ hj hi eb e1 b1
        show upd w1.h q _ r = _
        rw [upd_ne z]
        exact c1
  · have tr : ∀ {m : Nat} {es : List PyData}, (ss.set i (some (AV.buf (ds ++ [dd]))))[m]? = some (some (AV.buf es)) → ∃ es', ss[m]? = some (some (AV.buf es')) := fun {m es} b => by
      by_cases hm : i = m
      · subst hm
        exact ⟨ds, hi⟩
      · rw [List.getElem?_set_ne hm] at b
        exact ⟨es, b⟩
    obtain ⟨e1', c1⟩ := tr b1
    obtain ⟨e2', c2⟩ := tr b2
    exact hs1.ap j k e1' e2' z hjk c1 c2 b3
  · have tr : ∃ es', ss[j]? = some (some (AV.buf es')) := by
      by_cases hm : i = j
      · subst hm
        exact ⟨ds, hi⟩
      · rw [List.getElem?_set_ne hm] at b1
        exact ⟨es, b1⟩
    obtain ⟨es', c⟩ := tr
    exact hs1.fr j es' b c b2
end
/-! ### repr -/
section
variable {X : Cx} {s : Shared} {H : Hp} {σ : L2.St} {pins : List (Addr × Obj)}
mutual
theorem Dd.reads (I : Inv X pins σ H s) : ∀ (d : PyData) (v : V) (u : Value), Dd X.K H v d → RelV v u → ∃ as, Reads s.heap u d as ∧ ∀ b ∈ as, H b ≠ none
  | .none, _, _, h, r => by
    cases h
    cases r
    exact ⟨_, .none, fun b hb => nomatch hb⟩
  | .bool b, _, _, h, r => by
    cases h
    cases r
    exact ⟨_, .bool b, fun b hb => nomatch hb⟩
  | .int i, _, _, h, r => by
    cases h
    obtain ⟨t, rfl⟩ := r
    exact ⟨_, .int i t, fun b hb => nomatch hb⟩
  | .str x, _, _, h, r => by
    cases h
    obtain ⟨t, rfl⟩ := r
    exact ⟨_, .str x t, fun b hb => nomatch hb⟩
  | .list ds, _, _, h, r => by
    cases h with
    | lst hs ha =>
      cases r
      obtain ⟨_, its, n, rv, e⟩ := (show ObjOk X.prog X.w H s.heap _ (.lst _) from I.hok _ _ hs)
      obtain ⟨as, hr, hn⟩ := DdA.reads I ds _ its ha rv
      refine ⟨_, .list e rfl rfl hr, fun b hb => ?_⟩
      rcases List.mem_cons.mp hb with q | q
      · subst q
        rw [hs]
        simp
      · exact hn b q
  | .tuple ds, _, _, h, r => by
    cases h with
    | tup hs ha =>
      cases r
      obtain ⟨its, rv, ⟨ob, ho, hc, m, hd⟩, _⟩ := I.tuple hs
      obtain ⟨as, hr, hn⟩ := DdA.reads I ds _ its ha rv
      exact ⟨_, .tuple ho hc hd hr, hn⟩
  | .dict kvs, _, _, h, r => by
    cases h with
    | @dic a hs =>
      cases r
      obtain ⟨_, _, vs, rel, o, es, ep, e, ex, hd, _, hes, _⟩ := (show ObjOk X.prog X.w H s.heap _ (.dK []) from I.hok _ _ hs)
      cases rel
      have hl : es.toList = [] := by
        have z := hes.length
        simpa using z
      refine ⟨_, .dict (as := []) (bs := []) e ex.1 hd (by rw [hl]; exact .nil) (by rw [hl]; exact .nil), fun b hb => ?_⟩
      have q : b = a := by simpa using hb
      subst q
      rw [hs]
      simp
theorem DdA.reads (I : Inv X pins σ H s) : ∀ (ds : List PyData) (vs : List V) (us : List Value), DdA X.K H vs ds → Vals vs us → ∃ as, ReadsAll s.heap us ds as ∧ ∀ b ∈ as, H b ≠ none
  | [], _, _, h, r => by
    cases h
    cases r
    exact ⟨_, .nil, fun b hb => nomatch hb⟩
  | d :: ds, _, _, h, r => by
    cases h with
    | cons h1 h2 =>
      cases r with
      | cons r1 r2 =>
        obtain ⟨as, q1, n1⟩ := Dd.reads I d _ _ h1 r1
        obtain ⟨bs, q2, n2⟩ := DdA.reads I ds _ _ h2 r2
        exact ⟨_, .cons q1 q2, fun b hb => (List.mem_append.mp hb).elim (n1 b) (n2 b)⟩
end
def rRepr (K : PySem.W.Frag) : List V → Hp → VK → Prop := fun xs H Q => ∃ p d, xs = [.ref p] ∧ Dd K H (.ref p) d ∧ d.showable = true ∧ (d.hasDict = true → ∃ o, K.lookup sysModules = some o) ∧ d.depth ≤ 20 ∧ d.shown.length ≤ sizeLine ∧ Q (.str d.shown) H
theorem call_repr (hg : X.A.guards = some []) (hu : X.A.units + 64 < cLine) : CallR X (.builtin "repr") (rRepr X.K) := by
  intro pn s1 σ1 H1 xs us Q I r h
  obtain ⟨p, d, rfl, hd, h1, h2, h3, h4, q⟩ := h
  obtain ⟨v1, rfl, ru⟩ := vals1 r
  cases ru
  obtain ⟨as, hr, hn⟩ := Dd.reads I d (.ref p) (.ref p) hd rfl
  refine repr_of_reads' hr h1 (fun hx hm => ?_) hg (by omega) (fun _ _ e => e) (fun h' u tk hk => ⟨.str d.shown, H1, I.kept hk, ⟨_, rfl⟩, q⟩) h4
  obtain ⟨o, ho⟩ := h2 hx
  exact hn _ hm (I.bs _ o (I.ok.mod.kin _ o ho)).2
abbrev reprS (hd : Prop) : List AV → (AV → Prop) → Prop
  | [.dat (.list ds)], R => (PyData.list ds).showable = true ∧ ((PyData.list ds).hasDict = true → hd) ∧ (PyData.list ds).depth ≤ 20 ∧ (PyData.list ds).shown.length ≤ 16777216 ∧ R (.dat (.str (PyData.list ds).shown))
  | [.dat (.tuple ds)], R => (PyData.tuple ds).showable = true ∧ ((PyData.tuple ds).hasDict = true → hd) ∧ (PyData.tuple ds).depth ≤ 20 ∧ (PyData.tuple ds).shown.length ≤ 16777216 ∧ R (.dat (.str (PyData.tuple ds).shown))
  | _, _ => False
theorem dl_repr (hg : X.A.guards = some []) (hu : X.A.units + 64 < cLine) : DCl X (.builtin "repr") (reprS (∃ o, X.K.lookup sysModules = some o)) := ⟨_, call_repr hg hu, fun xs R hy vs w Q av q => by
  unfold reprS at hy
  split at hy
  · obtain ⟨v, rfl, hv⟩ := av.one
    obtain ⟨h1, h2, h3, h4, hr⟩ := hy
    cases hv with
    | lst a1 d1 => exact ⟨_, _, rfl, Dd.mono w.sub (.lst a1 d1), h1, h2, h3, by rw [sizeLine_eq]; exact h4, go q (.str _) hr⟩
  · obtain ⟨v, rfl, hv⟩ := av.one
    obtain ⟨h1, h2, h3, h4, hr⟩ := hy
    cases hv with
    | tup a1 d1 => exact ⟨_, _, rfl, Dd.mono w.sub (.tup a1 d1), h1, h2, h3, by rw [sizeLine_eq]; exact h4, go q (.str _) hr⟩
  · exact hy.elim⟩
end
end Kp


namespace Kp
open PySem PySem.Spec PyProof.Rows L2
/-! ### defs that repr: nothing is being shown around them -/
/-- a def's promise where no repr runs around -/
structure FnG (P : Program) (w : World) (K : PySem.W.Frag) (mg : Str → Option Value) (base : Heap) (k : Nat) (f : Addr) (fd : FuncData) (ps : List Str) (sp : Sp) : Prop where
  len : ∀ xs H Q E, sp xs H Q E → xs.length = ps.length
  run : ∀ (A : Around) (outer : List Env) (s : Shared) (H : Hp) (args : Args) (us : List Value) (vs : List V) (Q : VK) (E : XK), A.guards = some [] → Room k A → Env0 P w K mg base A outer s H → BindsTo s fd args (ps.zip us) → Vals vs us → sp vs H Q E →
    codeAny (model P w) A (.call (.ref f) args) (CR CX0 outer P w H s Q E) s
section
variable {base : Heap} {K : PySem.W.Frag} {w : World} {P : Program} {mg : Str → Option Value}
theorem okG {x qual : Str} {st : Stmt} {f : Addr} {fd : FuncData} {N ps : List Str} {k : Nat} {sp : Sp} (F : Fun K x qual st f fd) (S : FnScope N ps (defScope st)) (len : ∀ vs H Q E, sp vs H Q E → vs.length = ps.length)
    (hbody : ∀ (cdv : Value) (A : Around) (outer : List Env) (s : Shared) (H : Hp) (vs : List V) (Q : VK) (E : XK), A.guards = some [] → Room k (A.deeper (envOfC qual (defScope st) s.heap.objs.size f cdv)) → sp vs H Q E →
      ∃ t, PSs (cxB P w K mg base N qual (defScope st) f cdv A outer s H E) (defBody st) t ∧ t { nx := fun _ H' => Q .non H', rt := Q } (start N vs) H) : FnG P w K mg base (k + 1) f fd ps sp := by
  obtain ⟨_, _, _, _, _, _, cdv, _, _, rfl, lk, hcd⟩ := F.ex
  refine ⟨len, ?_⟩
  intro A outer s H args us vs Q E hg hr e0 hb rv hsp
  have hlen := len _ _ _ _ hsp
  have kin : K.In s.heap := e0.mod.kin.keeps fun b o q => (e0.bs b o q).1
  have nolim : s.heap.NoLimit := e0.mod.nolimit.keeps fun b o q => (e0.bs b o q).1
  have kinds : ∀ y ∈ ps.zip us, (defScope st).names.lookup y.1 = some .local ∨ ((defScope st).names.lookup y.1 = some .cell ∧ ((cellsFrom (s.heap.objs.size + 1) (defScope st).names []).lookup y.1).isSome = true) := by
    rintro ⟨n, v⟩ hy
    exact (S.par n (List.of_mem_zip hy).1).imp id fun q => ⟨q, PySem.W.cellsFrom_some _ _ _ (.inl q)⟩
  refine codeAny_call_function hr.depth (kin _ _ lk) rfl S.co S.gen rfl (PySem.W.codeRec_of kin hcd) (hb _ _ _ _ (wpAny_newFunctionEnv_cells S.kind kinds fun env he s1 x => ?_))
  subst he
  refine ⟨nolim.keeps x.toInCall.keep, codeAny_func ?_⟩
  obtain ⟨t, ht, hq⟩ := hbody cdv A outer s H vs Q E hg (hr.deeper _) hsp
  have I0 := inv_start (CX := CX0) (E := E) S hr.hd e0 hlen rv x
  refine wpAny_mono (ht.nox.run [] s1 (start N vs) H _ I0 hq) (fun fl s' z => ?_) fun _ _ z => z
  have back : ∀ {σ' : L2.St} {H' : Hp} {v : V} {u : Value}, Inv (cxOf CX0 P w K mg base N qual (defScope st) f cdv A outer s H E) [] σ' H' s' → RelV v u → Q v H' → CE outer P w H s Q u s' := fun J ru q => ⟨_, _, J.os, J.bare, J.base, J.hok, ru, q⟩
  match fl, z with
  | .ret _, ⟨_, _, _, J, ru, q⟩ => exact back J ru q
  | .next, ⟨_, _, J, q⟩ => exact back (v := V.non) (u := Value.none) J rfl q
  | .brk, ⟨_, _, _, q⟩ => exact q.elim
  | .cont, ⟨_, _, _, q⟩ => exact q.elim
/-- the same over data -/
theorem okGA {x qual : Str} {st : Stmt} {f : Addr} {fd : FuncData} {N ps : List Str} {k : Nat} {C : List AV → (AV → Prop) → Prop} (F : Fun K x qual st f fd) (S : FnScope N ps (defScope st)) (len : ∀ as R, C as R → as.length = ps.length)
    (hbody : ∀ (cdv : Value) (A : Around) (outer : List Env) (s : Shared) (H : Hp) (E : XK) (w0 : Wl) (as : List AV) (R : AV → Prop), A.guards = some [] → Room k (A.deeper (envOfC qual (defScope st) s.heap.objs.size f cdv)) → C as R →
      KSs (cxB P w K mg base N qual (defScope st) f cdv A outer s H E) w0 (defBody st) (ss0 N.length as) { nx := fun _ => R (.dat .none), rt := R }) : FnG P w K mg base (k + 1) f fd ps (spA K C) := by
  refine okG F S (fun vs H Q E ⟨w0, as, R, e, hv, hc, q⟩ => by rw [hv.length]; exact len as R hc.2) fun cdv A outer s H vs Q E hg hr ⟨w0, as, R, e, hv, hc, q⟩ => ?_
  refine ⟨_, hbody cdv A outer s H E w0 as R hg hr hc.2, w0, e, Sl.start hv hc.1, ⟨fun σ' ss' w' _ hs hk => q .non (.dat .none) w' hs.le .non hk, fun v a w' _ hl ha hr => q v a w' hl ha hr, fun _ _ _ _ _ h => h.elim, fun _ _ _ _ _ h => h.elim⟩⟩
end
section
variable {X : Cx} {w0 : Wl} {ss : SS}
theorem k_callG {C : List AV → (AV → Prop) → Prop} {k : Nat} {f : Addr} {fd : FuncData} {ps : List Str} {x : Str} {p pos : Pos} {e : Expr} {es : List Expr} {R : AV → Prop} (F : FnG X.prog X.w X.K X.mg X.base k f fd ps (spA X.K C)) (hgd : X.A.guards = some []) (hr : Room k X.A) (hg : Gl X x) (hm : X.mg x = some (.ref f)) (hk : PySem.W.keepIn X.K (.ref f) = true) (hb : Binds X.K fd ps [])
    (h : KA X w0 (e :: es) ss fun as => as.all AV.plain = true ∧ C as R) (hdb : (x == ("__debug__" : Str)) = false := by decide) (he : starEach (e :: es) X.env = (false, eval e X.env) :: starEach es X.env := by rfl) (hpl : (backTo pos (starEach es X.env)).any (·.1) = false := by rfl) :
    KE X w0 (.Call (.Name x p) (e :: es) [] pos) ss R := by
  refine ⟨fun pins s σ H Q I hq => wpAny_Call_Name_kw (ld_glob I hg hm ?_ hdb)⟩
  obtain ⟨w, ew, hs, q⟩ := hq
  refine PySem.W.callWith_K (h₀ := X.base) I.ok.mod.kin hk (thn (h.run pos pins s σ H (fun vs H1 => spA X.K C vs H1 Q fun _ _ _ => False) I ⟨w, ew, hs, fun vs as w1 l1 hvs hk => ⟨w1, as, R, rfl, hvs, hk, fun v2 a2 w2 l2 h2 r2 => q v2 a2 w2 (l1.trans l2) h2 r2⟩⟩) fun us s1 ⟨vs, H1, I1, r, q1⟩ => ⟨I1.kIn, ?_⟩) he hpl
  have hl : (us ++ []).length = ps.length := by rw [List.append_nil, ← r.length]; exact F.len _ _ _ _ q1
  have bd := hb s1 us I1.kIn hl
  rw [List.append_nil] at bd
  refine wpAny_call (codeAny_mono (F.run X.A X.stack s1 H1 ⟨us, []⟩ us vs Q (fun _ _ _ => False) hgd hr I1.env0 bd r q1) fun res s' hq => ?_)
  match res, hq with
  | .error _, z => exact z.elim
  | .ok (.ret _), z => exact I1.after z
  | .ok .next, z => exact z.elim
  | .ok .brk, z => exact z.elim
  | .ok .cont, z => exact z.elim
end
/-! ### the law's end, with nothing shown around -/
theorem lawG {P : Program} {w : World} {K : PySem.W.Frag} {mg mb : Str → Option Value} {k : Nat} {fa a : Addr} {fd : FuncData} {x : Str} {sp : Sp} {s0 : Shared} {vs : List Value} {ns : List Int}
    (KX : K.In s0.heap) (hns : s0.heap.Ns mainGlobals mg) (hbn : s0.heap.Ns builtinsNs mb) (hbo : ∀ x : Str, x ≠ "__name__" → mb x = bootBuiltins x) (hli : s0.heap.NoLimit) (hg : s0.gens = #[])
    (hat : s0.heap.get? a = some { cls := .type "list", data := .seq vs.toArray }) (his : IntsAre vs ns) (hle : ns.length ≤ sizeLine) (hr : Room k callerA)
    (F : ∀ base : Heap, K.In base → base.Ns mainGlobals mg → FnG P w K mg base k fa fd [x] sp) (hbind : ∀ (s : Shared) (u : Value), BindsTo s fd ⟨[u], []⟩ [(x, u)])
    (hsp : ∀ H : Hp, Only H → SqL K H a (ns.map V.int) → sp [.ref a] H (fun v _ => v = .bl true) fun _ _ _ => False) :
    codeAny (model P w) callerA (.call (.ref fa) ⟨[.ref a], []⟩) (fun r s' => r = .ok (.ret (.bool true)) ∧ OldK s0.heap s'.heap ∧ s'.os = s0.os ∧ AllBare s'.gens) s0 := by
  have rvs := vals_ints his
  have lenV := his.length
  -- with an abstract heap that tracks the script at most
  have core : ∀ H : Hp, Only H → SqL K H a (ns.map V.int) → HOk P w H s0.heap → (∀ b, H b ≠ none → b = a) → (H a ≠ none → K.lookup a = none) → codeAny (model P w) callerA (.call (.ref fa) ⟨[.ref a], []⟩)
      (fun r s' => r = .ok (.ret (.bool true)) ∧ OldK s0.heap s'.heap ∧ s'.os = s0.os ∧ AllBare s'.gens) s0 := by
    intro H hon hsq hok hal hkn
    have un : ∀ {b : Addr} {o : Obj} {es : Array DictEntry} {ep : Nat}, s0.heap.get? b = some o → o.data = .dict es ep → H b = none := by
      intro b o es ep e d
      cases q : H b with
      | none => rfl
      | some u =>
        have zz : b = a := hal b (by rw [q]; simp)
        rw [zz, hat] at e
        cases e
        exact nomatch (show Data.seq vs.toArray _ = Data.dict es ep from d)
    have nsK : ∀ {b : Addr} {m : Str → Option Value}, s0.heap.Ns b m → (hidT s0.heap H).Ns b m := fun ⟨o, es, ep, e, d, r⟩ => ⟨o, es, ep, hidT_get e (un e d), d, r⟩
    have hKb : K.In (hidT s0.heap H) := fun b o e => hidT_get (KX b o e) (by
      cases q : H b with
      | none => rfl
      | some u =>
        have zz : b = a := hal b (by rw [q]; simp)
        rw [zz, hkn (by rw [← zz, q]; simp)] at e
        cases e)
    have hM : Mod K mg (hidT s0.heap H) := ⟨hKb, nsK hns, ⟨mb, nsK hbn, hbo⟩, hli.elim fun mc zz => ⟨mc, nsK zz.1, zz.2⟩⟩
    have none_in : ∀ b : Addr, b ∉ frs [] := fun b zz => by cases zz
    have e0 : Env0 P w K mg (hidT s0.heap H) callerA [] s0 H := ⟨rfl, hM, fun b o e => of_hidT e, Nat.le_of_eq (hidT_size _ _), trivial, fun b zz => absurd zz (none_in b), hok, .of_eq hg⟩
    have run := (F _ hKb (nsK hns)).run callerA [] s0 H ⟨[.ref a], []⟩ [.ref a] [.ref a] _ _ rfl hr e0 (hbind s0 (.ref a)) (.cons rfl .nil) (hsp H hon hsq)
    refine codeAny_mono run fun res s' h => ?_
    match res, h with
    | .error _, zz => exact zz.elim
    | .ok .next, zz => exact zz.elim
    | .ok .brk, zz => exact zz.elim
    | .ok .cont, zz => exact zz.elim
    | .ok (.ret u), ⟨v, H', os, bare, uu, hok', r', q⟩ =>
      obtain rfl : v = .bl true := q
      obtain rfl : u = Value.bool true := r'
      refine ⟨rfl, OldK.of_keep fun b o e => ?_, os, bare⟩
      rcases hon b with zz | ⟨ob, xs, zz⟩
      · exact uu.keep b o e zz (none_in b) (by simp)
      · have e1 := (hok b _ zz).1
        rw [e] at e1
        cases e1
        exact (hok' b _ (uu.frzs b _ _ zz)).1
  by_cases hk : K.lookup a = none
  · have at_a : (fun b => if b = a then some (HO.frz { cls := .type "list", data := .seq vs.toArray } (.lst (ns.map V.int))) else none : Hp) a = some (.frz { cls := .type "list", data := .seq vs.toArray } (.lst (ns.map V.int))) := if_pos rfl
    refine core (fun b => if b = a then some (.frz { cls := .type "list", data := .seq vs.toArray } (.lst (ns.map V.int))) else none) (fun b => ?_) (.inl (.inr ⟨_, at_a⟩)) (fun b u zz => ?_) (fun b zz => ?_) fun _ => hk
    · by_cases hbn : b = a
      · exact .inr ⟨_, _, if_pos hbn⟩
      · exact .inl (if_neg hbn)
    · by_cases hbn : b = a
      · subst hbn
        have z' := at_a.symm.trans zz
        cases z'
        exact ⟨hat, by rw [List.length_map]; exact hle, vs, _, rvs, hat⟩
      · have z' := (if_neg hbn).symm.trans zz
        cases z'
    · by_cases hbn : b = a
      · exact hbn
      · exact absurd (if_neg hbn) zz
  · obtain ⟨o, ho⟩ := Option.ne_none_iff_exists'.mp hk
    have e := KX a o ho
    rw [hat] at e
    cases e
    refine core (fun _ => none) (fun _ => .inl rfl) (.inr ⟨_, vs.toArray, _, ho, rfl, rfl, rfl, by rw [List.size_toArray, lenV]; exact hle, by simpa using rvs⟩) (fun b u zz => nomatch (show (none : Option HO) = some u from zz)) (fun b zz => absurd rfl zz) fun zz => absurd rfl zz
/-- a law's promise: a list of at most 63 ints in, True out -/
def cLaw : List AV → (AV → Prop) → Prop := fun as R => ∃ ns : List Int, as = [.scr ns] ∧ ns.length ≤ 63 ∧ R (.dat (.bool true))
theorem cLaw_go {K : PySem.W.Frag} {H : Hp} {a : Addr} {ns : List Int} (hl : ns.length ≤ 63) (hS : SqL K H a (ns.map V.int)) : spA K cLaw [.ref a] H (fun v _ => v = .bl true) fun _ _ _ => False :=
  ⟨⟨H, H, Ex.refl H⟩, [.scr ns], fun a => a = .dat (.bool true), rfl, .cons ⟨a, rfl, hS⟩ .nil, ⟨rfl, ns, rfl, hl, rfl⟩, fun v b w' _ hv hb => by
    subst hb
    cases hv
    rfl⟩
theorem walkG {l : PySem.W.OpenLaw} {k : Nat} {q : Program} {loose : List Str} {XP : (Str → Option Value) → Heap → Prop} {YP : World → Heap → Prop} {d : DefRec} {K : Params → PySem.W.Frag} {x : Str}
    (hn : l.most = some 63) (hdf : d.params.defaults = []) (hr : Room k callerA) (hY : ∀ (w : World) (h : Heap), YP w h → (K w.params).In h)
    (F : ∀ (w : World) (mg : Str → Option Value) (fa : Addr) (hp : Heap), (K w.params).In hp → hp.Ns mainGlobals mg → mg d.name = some (.ref fa) →
      ∃ fd : FuncData, (∀ (s : Shared) (u : Value), BindsTo s fd ⟨[u], []⟩ [(x, u)]) ∧ ∀ base : Heap, (K w.params).In base → base.Ns mainGlobals mg → FnG l.prog w (K w.params) mg base k fa fd [x] (spA (K w.params) cLaw)) :
    PySem.W.WalkO q loose XP YP l.row.toRowW d [] (fun fn us => PySem.call fn us) := by
  refine Att.attach_call hn hdf ?_
  intro w s₀ s₁ mg mb fa o pm cd doc a vs ns G Y ho hd hcd hmg hobj hints hlen hg
  obtain ⟨fd, hb, hF⟩ := F w mg fa _ (hY w _ Y) G.T.g hmg
  exact lawG (hY w _ Y) G.T.g G.T.b G.T.builtins G.T.nolimit hg hobj hints (Nat.le_trans hlen (by decide)) hr hF hb fun H hO hS => cLaw_go hlen hS
end Kp


namespace Kp
open PySem PySem.Spec PyProof.Rows L2
/-! ### the pool: two ints of which only the bounds are told -/
abbrev Plo (y : Int) : Prop := 0 ≤ y ∧ y < 2147483647
/-- take, by the two ints as they are -/
def spTakeL : Sp := fun vs H Q _ => ∃ (p : Addr) (x y n : Int), vs = [.ref p, .int n] ∧ H p = some (.lst [.int x, .int y]) ∧ Plo y ∧ 0 < n ∧ n < 1073741824 ∧
  ∀ r x' y' : Int, Plo y' → 0 ≤ r → r < n → Q (.int r) (upd H p (.lst [.int x', .int y']))
/-- take: any number below the size -/
def cTake : List AV → (AV → Prop) → Prop := fun as R => ∃ n : Int, as = [.pool, .dat (.int n)] ∧ 0 < n ∧ n < 1073741824 ∧ ∀ r : Int, 0 ≤ r → r < n → R (.dat (.int r))
theorem PL.back {P : Program} {w : World} {H : Hp} {h : Heap} {p : Addr} {x y : Int} (hy : Plo y) (hp : ObjOk P w H h p (.lst [.int x, .int y])) : ObjOk P w H h p (PL p) := by
  obtain ⟨_, its, n, rv, e⟩ := hp
  exact ⟨⟨x, y, hy, its, n, rv, e⟩, ⟨_, e⟩, fun h1 h2 ⟨x1, y1, b1, i1, n1, r1, e1⟩ k => ⟨x1, y1, b1, i1, n1, r1, k _ e1⟩⟩
theorem take_pool {P : Program} {w : World} {K : PySem.W.Frag} {mg : Str → Option Value} {base : Heap} {k : Nat} {f : Addr} {fd : FuncData} {ps : List Str} (F : FnOk P w K mg base CX0 k f fd ps spTakeL) (hps : ps.length = 2) : FnOk P w K mg base CX0 k f fd ps (spA K cTake) := by
  refine ⟨fun vs H Q E ⟨w0, as, R, e, hv, hc, q⟩ => ?_, fun A outer s H args us vs Q E hr e0 hb rv ⟨w0, as, R, eh, hv, ⟨_, n, ea, n0, n1, hR⟩, q⟩ => ?_⟩
  · obtain ⟨_, n, rfl, _⟩ := hc
    rw [hv.length, hps]
    rfl
  · subst ea
    subst eh
    obtain ⟨v, u, rfl, ⟨p, rfl, hp⟩, hu⟩ := hv.two
    cases hu
    have hpH : w0.h p = some (PL p) := w0.sub _ _ hp
    obtain ⟨⟨x, y, hy, its, m, ri, ei⟩, _, _⟩ := (show ObjOk P w w0.h s.heap p (PL p) from e0.hok p _ hpH)
    have ne : ∀ (b : Addr) (o : HO), w0.h b = some o → o ≠ PL p → b ≠ p := fun b o hb ho z => by
      rw [z, hpH] at hb
      exact ho (Option.some.inj hb).symm
    have fr : ∀ b, w0.h b = none → upd w0.h p (.lst [.int x, .int y]) b = none := fun b hb => by
      rw [upd_ne (fun z => by rw [z, hpH] at hb; cases hb)]
      exact hb
    have hokL : HOk P w (upd w0.h p (.lst [.int x, .int y])) s.heap := fun b o hb => by
      by_cases z : b = p
      · subst z
        rw [upd_same] at hb
        cases hb
        exact ⟨by show 2 ≤ sizeLine; decide, its, m, ri, ei⟩
      · rw [upd_ne z] at hb
        exact (e0.hok b o hb).stay (fun _ _ _ q => q) (fun c hc => by rw [upd_ne (ne c _ hc (fun q => nomatch q))]; exact hc) fun c xs hc => by rw [upd_ne (ne c _ hc (fun q => nomatch q))]; exact hc
    have eL : Env0 P w K mg base A outer s (upd w0.h p (.lst [.int x, .int y])) := ⟨e0.frames, e0.mod, fun b o hb => ⟨(e0.bs b o hb).1, fr b (e0.bs b o hb).2⟩, e0.bsz, e0.funs, fun b hb => fr b (e0.frf b hb), hokL, e0.bare⟩
    refine codeAny_mono (F.run A outer s _ args us [.ref p, .int n] (fun v H' => ∃ r x' y' : Int, v = .int r ∧ H' = upd w0.h p (.lst [.int x', .int y']) ∧ Plo y' ∧ 0 ≤ r ∧ r < n) (fun _ _ _ => False) hr eL hb rv
      ⟨p, x, y, n, rfl, upd_same, hy, n0, n1, fun r x' y' b1 b2 b3 => ⟨r, x', y', rfl, by rw [upd_upd], b1, b2, b3⟩⟩) fun res s' h => ?_
    match res, h with
    | .error _, z => exact z.elim
    | .ok .next, z => exact z.elim
    | .ok .brk, z => exact z.elim
    | .ok .cont, z => exact z.elim
    | .ok (.ret u), ⟨v, H', os, bare, un, hok', ru, r, x', y', ev, eH, b1, b2, b3⟩ =>
      subst ev
      subst eH
      refine ⟨.int r, w0.h, os, bare, ⟨fun b o e hb h1 h2 => un.keep b o e (fr b hb) h1 h2, fun b o e hb h1 h2 => un.slot b o e (fr b hb) h1 h2, fun _ _ _ hb _ => hb, un.there, fun _ _ z => z, fun _ _ _ z => z, fun _ ps z => ⟨#[], by rw [z]; simp⟩⟩, fun b o hb => ?_, ru, ?_⟩
      · by_cases z : b = p
        · subst z
          rw [hpH] at hb
          cases hb
          have ok := PL.back b1 (hok' b _ upd_same)
          exact ⟨ok.1, ok.2.1, ok.2.2⟩
        · have hb2 : upd w0.h p (.lst [.int x', .int y']) b = some o := by rw [upd_ne z]; exact hb
          refine (hok' b o hb2).stay (fun _ _ _ q => q) (fun c hc => ?_) fun c xs hc => ?_
          · by_cases zc : c = p
            · rw [zc, upd_same] at hc
              cases hc
            · rw [upd_ne zc] at hc
              exact hc
          · by_cases zc : c = p
            · rw [zc, upd_same] at hc
              cases hc
            · rw [upd_ne zc] at hc
              exact hc
      · exact q (.int r) (.dat (.int r)) w0 (Le.refl w0) (.int r) (hR r b2 b3)
/-- a new list of two ints within their bounds is a pool from here -/
def spPoolL (K : PySem.W.Frag) : Sp := fun vs H Q _ => ∃ (a : Addr) (ns : List Int) (k : Int), vs = [.ref a, .int k] ∧ SqL K H a (ns.map V.int) ∧ ns.length ≤ 63 ∧ 0 ≤ k ∧ k < 1000 ∧ ∀ (p : Addr) (x y : Int) (H' : Hp), H p = none → Plo y → Ex H H' → H' p = some (.lst [.int x, .int y]) → Q (.ref p) H'
def cPool : List AV → (AV → Prop) → Prop := fun as R => ∃ (ns : List Int) (k : Int), as = [.scr ns, .dat (.int k)] ∧ ns.length ≤ 63 ∧ 0 ≤ k ∧ k < 1000 ∧ R .pool
theorem pool_pool {P : Program} {w : World} {K : PySem.W.Frag} {mg : Str → Option Value} {base : Heap} {k : Nat} {f : Addr} {fd : FuncData} {ps : List Str} (F : FnOk P w K mg base CX0 k f fd ps (spPoolL K)) (hps : ps.length = 2) : FnOk P w K mg base CX0 k f fd ps (spA K cPool) := by
  refine ⟨fun vs H Q E ⟨w0, as, R, e, hv, hc, q⟩ => ?_, fun A outer s H args us vs Q E hr e0 hb rv ⟨w0, as, R, eh, hv, ⟨_, ns, kk, ea, hl, k0, k1, hR⟩, q⟩ => ?_⟩
  · obtain ⟨_, ns, kk, rfl, _⟩ := hc
    rw [hv.length, hps]
    rfl
  · subst ea
    subst eh
    obtain ⟨v, u, rfl, ⟨a, rfl, ha⟩, hu⟩ := hv.two
    cases hu
    refine codeAny_mono (F.run A outer s _ args us [.ref a, .int kk] (fun v H' => ∃ (p : Addr) (x y : Int), v = .ref p ∧ w0.h p = none ∧ Plo y ∧ Ex w0.h H' ∧ H' p = some (.lst [.int x, .int y])) (fun _ _ _ => False) hr e0 hb rv
      ⟨a, ns, kk, rfl, ex_l w0.sub ha, hl, k0, k1, fun p x y H' b1 b2 b3 b4 => ⟨p, x, y, rfl, b1, b2, b3, b4⟩⟩) fun res s' h => ?_
    match res, h with
    | .error _, z => exact z.elim
    | .ok .next, z => exact z.elim
    | .ok .brk, z => exact z.elim
    | .ok .cont, z => exact z.elim
    | .ok (.ret u), ⟨v, H', os, bare, un, hok', ru, p, x, y, ev, b1, b2, b3, b4⟩ =>
      subst ev
      have np : ∀ (b : Addr) (o : HO), H' b = some o → o ≠ .lst [.int x, .int y] → b ≠ p := fun b o hb ho z => by
        rw [z, b4] at hb
        exact ho (Option.some.inj hb).symm
      have kp : Ex w0.h (upd H' p (PL p)) := fun b o e => by
        rw [upd_ne (ne_of_none e b1)]
        exact b3 b o e
      have sub : Ex (upd w0.g p (PL p)) (upd H' p (PL p)) := fun b o e => by
        by_cases z : b = p
        · subst z
          rw [upd_same] at e ⊢
          exact e
        · rw [upd_ne z] at e
          exact kp b o (w0.sub b o e)
      have g0 : w0.g p = none := w0.gfree b1
      refine ⟨.ref p, upd H' p (PL p), os, bare, ⟨un.keep, un.slot, fun b o e hb h1 => ?_, un.there, fun b xs z => kp b _ z, fun b o u z => kp b _ z, fun b ps z => ⟨#[], by rw [kp b _ z]; simp⟩⟩, fun b o hb => ?_, ru, ?_⟩
      · have q1 := un.free b o e hb h1
        rw [upd_ne (fun z => by rw [z, b4] at q1; cases q1)]
        exact q1
      · by_cases z : b = p
        · subst z
          rw [upd_same] at hb
          cases hb
          have ok := PL.back b2 (hok' b _ b4)
          exact ⟨ok.1, ok.2.1, ok.2.2⟩
        · rw [upd_ne z] at hb
          exact (hok' b o hb).stay (fun _ _ _ q => q) (fun c hc => by rw [upd_ne (np c _ hc (fun q => nomatch q))]; exact hc) fun c xs hc => by rw [upd_ne (np c _ hc (fun q => nomatch q))]; exact hc
      · have le : Le w0 ⟨upd w0.g p (PL p), upd H' p (PL p), sub⟩ := ⟨Ex.new g0, kp, fun b h1 h2 => by
          have z : b ≠ p := fun z => h1 (by rw [z]; exact b1)
          show upd w0.g p (PL p) b = none
          rw [upd_ne z]
          exact h2⟩
        exact q (.ref p) .pool ⟨upd w0.g p (PL p), upd H' p (PL p), sub⟩ le ⟨p, rfl, upd_same⟩ hR
end Kp


namespace Kp
open PySem PySem.Spec PyProof.Rows L2
section
variable {X : Cx} {w0 : Wl} {ss : SS} {a b : Expr} {pos : Pos}
theorem kt_chain {op op' : CmpOp} {c : Expr} {R : Bool → Prop} {S S' : AV → AV → (Bool → Prop) → Prop} (hc : DCmp X op S) (hc' : DCmp X op' S') (h : KE X w0 a ss fun x => KE X w0 b ss fun y => S x y fun t => iteP t (KE X w0 c ss fun z => S' y z R) (R false))
    (hm : lastMarks [op, op'] [b, c] = false := by with_unfolding_all rfl) : KT X w0 (.Compare a [op, op'] [b, c] pos) ss R := by
  obtain ⟨r, ho, hk⟩ := hc
  obtain ⟨r', ho', hk'⟩ := hc'
  refine PT.imp (pt_chain ho ho' h (pe_an (w0 := w0) (ss := ss)) (pe_an (w0 := w0) (ss := ss)) hm) fun σ H Q ⟨w, ew, hs, q⟩ => ⟨w, ew, hs, fun v x w1 l1 hv hb => ⟨_, hb, w1, rfl, hs.mono l1, fun v2 y w2 l2 hv2 hS => ?_⟩⟩
  refine hk x y (fun t => onBool t fun t => iteP t (KE X w0 c ss fun z => S' y z R) (R false)) hS v v2 w2 _ (hv.mono l2) hv2 fun v3 t w3 l3 hv3 ht => ?_
  obtain ⟨t, rfl, ht⟩ := ht.of
  cases hv3
  refine ⟨t, rfl, ?_⟩
  cases t
  · exact iteF ⟨false, rfl, q false w3 (l1.trans (l2.trans l3)) ht⟩
  · refine iteT ⟨_, ht, w3, rfl, (hs.mono l1).mono (l2.trans l3), fun v4 z w4 l4 hv4 hS' => ?_⟩
    refine hk' y z (fun t => onBool t R) hS' v2 v4 w4 _ (hv2.mono (l3.trans l4)) hv4 fun v5 a5 w5 l5 hv5 r5 => ?_
    obtain ⟨u, rfl, hu⟩ := r5.of
    cases hv5
    exact ⟨u, rfl, q u w5 (l1.trans (l2.trans (l3.trans (l4.trans l5)))) hu⟩
theorem iteD {c A B : Prop} [h : Decidable c] (h1 : c → A) (h2 : ¬ c → B) : iteP (decide c) A B := by
  by_cases q : c
  · rw [decide_eq_true q]; exact h1 q
  · rw [decide_eq_false q]; exact h2 q
theorem iteN {c A B : Prop} [h : Decidable c] (h1 : ¬ c → A) (h2 : c → B) : iteP (!decide c) A B := by
  by_cases q : c
  · rw [decide_eq_true q]; exact h2 q
  · rw [decide_eq_false q]; exact h1 q
/-- a module's constant -/
theorem k_gl {x : Str} {v : V} {u : Value} {d : PyData} {R : AV → Prop} (hg : Gl X x) (hm : X.mg x = some u) (r : RelV v u) (hd : ∀ H, Dd X.K H v d) (hR : R (.dat d)) (hdb : (x == ("__debug__" : Str)) = false := by decide) : KE X w0 (.Name x pos) ss R :=
  k_c (pe_glob hg hm r hdb) (fun w => hd w.g) hR
end
/-! ### which data are of which built-in kind -/
def isTup : PyData → Bool | .tuple _ => true | _ => false
def isStrD : PyData → Bool | .str _ => true | _ => false
def isIntB : PyData → Bool | .int _ => true | .bool _ => true | _ => false
def isBoolD : PyData → Bool | .bool _ => true | _ => false
def isLst : PyData → Bool | .list _ => true | _ => false
theorem kit_tup : ∀ d : PyData, kitB (tyD d) "tuple" = some (isTup d)
  | .none => (by decide +kernel : kitB "NoneType" "tuple" = some false)
  | .bool _ => (by decide +kernel : kitB "bool" "tuple" = some false)
  | .int _ => (by decide +kernel : kitB "int" "tuple" = some false)
  | .str _ => (by decide +kernel : kitB "str" "tuple" = some false)
  | .list _ => (by decide +kernel : kitB "list" "tuple" = some false)
  | .tuple _ => (by decide +kernel : kitB "tuple" "tuple" = some true)
  | .dict _ => (by decide +kernel : kitB "dict" "tuple" = some false)
theorem kit_str : ∀ d : PyData, kitB (tyD d) "str" = some (isStrD d)
  | .none => (by decide +kernel : kitB "NoneType" "str" = some false)
  | .bool _ => (by decide +kernel : kitB "bool" "str" = some false)
  | .int _ => (by decide +kernel : kitB "int" "str" = some false)
  | .str _ => (by decide +kernel : kitB "str" "str" = some true)
  | .list _ => (by decide +kernel : kitB "list" "str" = some false)
  | .tuple _ => (by decide +kernel : kitB "tuple" "str" = some false)
  | .dict _ => (by decide +kernel : kitB "dict" "str" = some false)
theorem kit_int : ∀ d : PyData, kitB (tyD d) "int" = some (isIntB d)
  | .none => (by decide +kernel : kitB "NoneType" "int" = some false)
  | .bool _ => (by decide +kernel : kitB "bool" "int" = some true)
  | .int _ => (by decide +kernel : kitB "int" "int" = some true)
  | .str _ => (by decide +kernel : kitB "str" "int" = some false)
  | .list _ => (by decide +kernel : kitB "list" "int" = some false)
  | .tuple _ => (by decide +kernel : kitB "tuple" "int" = some false)
  | .dict _ => (by decide +kernel : kitB "dict" "int" = some false)
theorem kit_bool : ∀ d : PyData, kitB (tyD d) "bool" = some (isBoolD d)
  | .none => (by decide +kernel : kitB "NoneType" "bool" = some false)
  | .bool _ => (by decide +kernel : kitB "bool" "bool" = some true)
  | .int _ => (by decide +kernel : kitB "int" "bool" = some false)
  | .str _ => (by decide +kernel : kitB "str" "bool" = some false)
  | .list _ => (by decide +kernel : kitB "list" "bool" = some false)
  | .tuple _ => (by decide +kernel : kitB "tuple" "bool" = some false)
  | .dict _ => (by decide +kernel : kitB "dict" "bool" = some false)
theorem kit_list : ∀ d : PyData, kitB (tyD d) "list" = some (isLst d)
  | .none => (by decide +kernel : kitB "NoneType" "list" = some false)
  | .bool _ => (by decide +kernel : kitB "bool" "list" = some false)
  | .int _ => (by decide +kernel : kitB "int" "list" = some false)
  | .str _ => (by decide +kernel : kitB "str" "list" = some false)
  | .list _ => (by decide +kernel : kitB "list" "list" = some true)
  | .tuple _ => (by decide +kernel : kitB "tuple" "list" = some false)
  | .dict _ => (by decide +kernel : kitB "dict" "list" = some false)
/-! ### a dict of the top, asked by get -/
/-- d.get(k) of a written dict with text keys -/
def tKGet (K : PySem.W.Frag) (w : World) (td ty : TE) : TE := fun σ H Q => td σ H fun x H1 => ∃ a es n, x = .ref a ∧ KDict K w a es n ∧ ty σ H1 fun y H2 => ∃ (z : Str) (o : Option Value) (v : V), y = .str z ∧ PySem.W.nsIn K a z = some o ∧ RelV v (o.getD .none) ∧ Q v H2
section
variable {X : Cx} {w0 : Wl} {ss : SS} {o e : Expr} {apos cpos : Pos} {td ty : TE}
theorem pe_kget (hu : X.A.units + 1 < cLine) (ho : PE X o td) (he : PE X e ty) (m : M1 X o "get" apos e cpos) : PE X (.Call (.Attribute o "get" apos) [e] [] cpos) (tKGet X.K X.w td ty) := by
  refine ⟨fun pins s σ H Q I hq => ?_⟩
  refine wpAny_Call_method m.base m.few m.line PySem.F.plainAttrs_dict PySem.F.slot_dict_get PySem.F.type_dict_get (thn (ho.run pins s σ H _ I hq) fun u s1 ⟨x, H1, I1, rx, a, es, n, ex, D, q1⟩ => ?_)
  subst ex
  obtain rfl : u = .ref a := rx
  refine ⟨kd_type D I1, fun b q => ?_, ?_⟩
  · cases q
    exact ⟨_, I1.kIn _ _ D.at_, rfl⟩
  rw [m.trees]
  refine Calls.callWith_builtin rfl (Calls.evalArgs_plain (Calls.spliced_cons (thn (he.run pins s1 σ H1 _ I1 q1) fun iv s2 ⟨y, H2, I2, ry, z, ov, v, ey, en, rv, q2⟩ => Calls.spliced_nil ?_)))
  subst ey
  obtain ⟨t, rfl⟩ := ry
  have hm := PySem.W.mapOf_K (prog := X.prog) (w := X.w) I2.kIn D.at_ D.lit
  refine call_meetsIn PySem.F.slot_dict_get hm.typeIs PySem.F.entry_dict_get (PySem.F.args_dict_get_2 _ _) (meets_dict_get (strKind X.prog X.w) a (PySem.strKind_is X.prog X.w z t) D.low) ⟨_, hm, ?_⟩
  rw [PySem.W.find_K D.at_ en]
  exact ⟨v, H2, I2.tok _, rv, q2⟩
/-- NAME.get(e) of a dict of the top: V tells what stands by each text -/
theorem k_kget {x : Str} {p : Pos} {d : Addr} {es : Array DictEntry} {n : Nat} {R : AV → Prop} (hu : X.A.units + 1 < cLine) (D : KDict X.K X.w d es n) (hg : Gl X x) (hx : X.mg x = some (.ref d)) (m : M1 X (.Name x p) "get" apos e cpos) (V : Str → PyData)
    (hV : ∀ z, ∃ o v, PySem.W.nsIn X.K d z = some o ∧ RelV v (o.getD .none) ∧ ∀ H, Dd X.K H v (V z)) (h : KE X w0 e ss fun a => onDat a fun y => ∃ z, y = .str z ∧ R (.dat (V z))) (hdb : (x == ("__debug__" : Str)) = false := by decide) : KE X w0 (.Call (.Attribute (.Name x p) "get" apos) [e] [] cpos) ss R :=
  PE.imp (pe_kget hu (pe_glob hg hx (v := .ref d) rfl hdb) h m) fun σ H Q ⟨w, ew, hs, q⟩ => ⟨d, es, n, rfl, D, w, ew, hs, fun v a w1 l1 hv hk => by
    obtain ⟨y, rfl, z, rfl, hr⟩ := hk.of
    cases hv
    obtain ⟨o, v, e1, e2, e3⟩ := hV z
    exact ⟨z, o, v, rfl, e1, e2, q v (.dat (V z)) w1 l1 (e3 w1.g) hr⟩⟩
end
end Kp


namespace Kp
open PySem PySem.Spec PyProof.Rows L2
/-! ### defs by name -/
/-- how a def of the top stands -/
def Fn0 (K : PySem.W.Frag) (mg : Str → Option Value) (x : Str) (st : Stmt) (ps : List Str) : Prop := ∃ (f : Addr) (fd : FuncData), Fun K x x st f fd ∧ mg x = some (.ref f) ∧ Binds K fd ps []
/-- by the name x a def is called that does C -/
def Dn (P : Program) (w : World) (K : PySem.W.Frag) (mg : Str → Option Value) (base : Heap) (x : Str) (k : Nat) (C : List AV → (AV → Prop) → Prop) : Prop := ∃ (f : Addr) (fd : FuncData) (ps : List Str),
  FnOk P w K mg base CX0 k f fd ps (spA K C) ∧ mg x = some (.ref f) ∧ PySem.W.keepIn K (.ref f) = true ∧ Binds K fd ps []
def DnG (P : Program) (w : World) (K : PySem.W.Frag) (mg : Str → Option Value) (base : Heap) (x : Str) (k : Nat) (C : List AV → (AV → Prop) → Prop) : Prop := ∃ (f : Addr) (fd : FuncData) (ps : List Str),
  FnG P w K mg base k f fd ps (spA K C) ∧ mg x = some (.ref f) ∧ PySem.W.keepIn K (.ref f) = true ∧ Binds K fd ps []
section
variable {X : Cx} {w0 : Wl} {ss : SS} {R : AV → Prop}
theorem k_cd {C : List AV → (AV → Prop) → Prop} {j k : Nat} {x : Str} {p pos : Pos} {e : Expr} {es : List Expr} (D : Dn X.prog X.w X.K X.mg X.base x k C) (hr : Room j X.A) (hk : k ≤ j) (hg : Gl X x)
    (h : KA X w0 (e :: es) ss fun as => as.all AV.plain = true ∧ C as R) (hdb : (x == ("__debug__" : Str)) = false := by decide) (he : starEach (e :: es) X.env = (false, eval e X.env) :: starEach es X.env := by rfl) (hpl : (backTo pos (starEach es X.env)).any (·.1) = false := by rfl) :
    KE X w0 (.Call (.Name x p) (e :: es) [] pos) ss R := by
  obtain ⟨f, fd, ps, F, hm, hkp, hb⟩ := D
  exact k_call F (hr.mono hk) hg hm hkp hb h hdb he hpl
theorem k_cg {C : List AV → (AV → Prop) → Prop} {j k : Nat} {x : Str} {p pos : Pos} {e : Expr} {es : List Expr} (D : DnG X.prog X.w X.K X.mg X.base x k C) (hgd : X.A.guards = some []) (hr : Room j X.A) (hk : k ≤ j) (hg : Gl X x)
    (h : KA X w0 (e :: es) ss fun as => as.all AV.plain = true ∧ C as R) (hdb : (x == ("__debug__" : Str)) = false := by decide) (he : starEach (e :: es) X.env = (false, eval e X.env) :: starEach es X.env := by rfl) (hpl : (backTo pos (starEach es X.env)).any (·.1) = false := by rfl) :
    KE X w0 (.Call (.Name x p) (e :: es) [] pos) ss R := by
  obtain ⟨f, fd, ps, F, hm, hkp, hb⟩ := D
  exact k_callG F hgd (hr.mono hk) hg hm hkp hb h hdb he hpl
end
section
variable {base : Heap} {K : PySem.W.Frag} {w : World} {P : Program} {mg : Str → Option Value}
theorem dn {x : Str} {st : Stmt} {N ps : List Str} {k : Nat} {C : List AV → (AV → Prop) → Prop} (F : Fn0 K mg x st ps) (S : FnScope N ps (defScope st)) (len : ∀ as R, C as R → as.length = ps.length)
    (hbody : ∀ (f : Addr) (cdv : Value) (A : Around) (outer : List Env) (s : Shared) (H : Hp) (E : XK) (w0 : Wl) (as : List AV) (R : AV → Prop), Room k (A.deeper (envOfC x (defScope st) s.heap.objs.size f cdv)) → C as R →
      KSs (cxB P w K mg base N x (defScope st) f cdv A outer s H E) w0 (defBody st) (ss0 N.length as) { nx := fun _ => R (.dat .none), rt := R }) : Dn P w K mg base x (k + 1) C := by
  obtain ⟨f, fd, F, hm, hb⟩ := F
  exact ⟨f, fd, ps, okA F S len (hbody f), hm, F.kp, hb⟩
theorem dnG {x : Str} {st : Stmt} {N ps : List Str} {k : Nat} {C : List AV → (AV → Prop) → Prop} (F : Fn0 K mg x st ps) (S : FnScope N ps (defScope st)) (len : ∀ as R, C as R → as.length = ps.length)
    (hbody : ∀ (f : Addr) (cdv : Value) (A : Around) (outer : List Env) (s : Shared) (H : Hp) (E : XK) (w0 : Wl) (as : List AV) (R : AV → Prop), A.guards = some [] → Room k (A.deeper (envOfC x (defScope st) s.heap.objs.size f cdv)) → C as R →
      KSs (cxB P w K mg base N x (defScope st) f cdv A outer s H E) w0 (defBody st) (ss0 N.length as) { nx := fun _ => R (.dat .none), rt := R }) : DnG P w K mg base x (k + 1) C := by
  obtain ⟨f, fd, F, hm, hb⟩ := F
  exact ⟨f, fd, ps, okGA F S len (hbody f), hm, F.kp, hb⟩
end
section
variable {base : Heap} {K : PySem.W.Frag} {w : World} {P : Program} {mg : Str → Option Value}
/-- a def whose body is read by the hand layer itself -/
theorem dnL {x : Str} {st : Stmt} {N ps : List Str} {k : Nat} {sp : Sp} {C : List AV → (AV → Prop) → Prop} (F : Fn0 K mg x st ps) (S : FnScope N ps (defScope st)) (len : ∀ vs H Q E, sp vs H Q E → vs.length = ps.length) (himp : ∀ vs H Q E, spA K C vs H Q E → sp vs H Q E)
    (hbody : ∀ (f : Addr) (cdv : Value) (A : Around) (outer : List Env) (s : Shared) (H : Hp) (vs : List V) (Q : VK) (E : XK), Room k (A.deeper (envOfC x (defScope st) s.heap.objs.size f cdv)) → sp vs H Q E →
      ∃ t, PSs (cxB P w K mg base N x (defScope st) f cdv A outer s H E) (defBody st) t ∧ t { nx := fun _ H' => Q .non H', rt := Q } (start N vs) H) : Dn P w K mg base x (k + 1) C := by
  obtain ⟨f, fd, F, hm, hb⟩ := F
  exact ⟨f, fd, ps, (F.ok S len (hbody f)).imp himp, hm, F.kp, hb⟩
end
/-- a larger heap, nothing new to lean on -/
def Wl.more (w : Wl) (H' : Hp) (e : Ex w.h H') : Wl := ⟨w.g, H', w.sub.trans e⟩
theorem Le.more {w : Wl} {H' : Hp} (e : Ex w.h H') : Le w (w.more H' e) := ⟨Ex.refl _, e, fun _ _ h => h⟩
section
variable {X : Cx}
/-- == of two texts, of two ints -/
abbrev seqS (x y : AV) (R : Bool → Prop) : Prop := match x, y with
  | .dat (.str i), .dat (.str j) => R (decide (i = j))
  | .dat (.int i), .dat (.int j) => R (decide (i = j))
  | _, _ => False
abbrev sneS (x y : AV) (R : Bool → Prop) : Prop := match x, y with
  | .dat (.str i), .dat (.str j) => R (!decide (i = j))
  | .dat (.int i), .dat (.int j) => R (!decide (i = j))
  | _, _ => False
theorem dV_str (i j : Str) : decide (V.str i = V.str j) = decide (i = j) := by by_cases h : i = j <;> simp [h]
theorem dV_int (i j : Int) : decide (V.int i = V.int j) = decide (i = j) := by by_cases h : i = j <;> simp [h]
theorem dc_seq : DCmp X .Eq seqS := ⟨_, op_eq, fun x y R hy vx vy w Q ax ay q => by
  unfold seqS at hy
  split at hy
  · cases ax
    cases ay
    exact ⟨rfl, by rw [dV_str]; exact go q (.bl _) hy⟩
  · cases ax
    cases ay
    exact ⟨rfl, by rw [dV_int]; exact go q (.bl _) hy⟩
  · exact hy.elim⟩
theorem dc_sne : DCmp X .NotEq sneS := ⟨_, op_ne, fun x y R hy vx vy w Q ax ay q => by
  unfold sneS at hy
  split at hy
  · cases ax
    cases ay
    exact ⟨rfl, by rw [dV_str]; exact go q (.bl _) hy⟩
  · cases ax
    cases ay
    exact ⟨rfl, by rw [dV_int]; exact go q (.bl _) hy⟩
  · exact hy.elim⟩
end
/-- what of the built-ins' names the top leaves alone -/
structure Blt (mg : Str → Option Value) : Prop where
  isi : mg "isinstance" = none
  len : mg "len" = none
  all : mg "all" = none
  tup : mg "tuple" = none
  str : mg "str" = none
  int : mg "int" = none
  bool : mg "bool" = none
  zip : mg "zip" = none
  range : mg "range" = none
  min : mg "min" = none
  max : mg "max" = none
  sorted : mg "sorted" = none
  list : mg "list" = none
  repr : mg "repr" = none
theorem b_isi : bootBuiltins "isinstance" = some (.builtin "isinstance") := by decide +kernel
theorem b_len : bootBuiltins "len" = some (.builtin "len") := by decide +kernel
theorem b_all : bootBuiltins "all" = some (.builtin "all") := by decide +kernel
theorem b_min : bootBuiltins "min" = some (.builtin "min") := by decide +kernel
theorem b_max : bootBuiltins "max" = some (.builtin "max") := by decide +kernel
theorem b_sorted : bootBuiltins "sorted" = some (.builtin "sorted") := by decide +kernel
theorem b_repr : bootBuiltins "repr" = some (.builtin "repr") := by decide +kernel
theorem b_tup : bootBuiltins "tuple" = some (.type "tuple") := by decide +kernel
theorem b_str : bootBuiltins "str" = some (.type "str") := by decide +kernel
theorem b_int : bootBuiltins "int" = some (.type "int") := by decide +kernel
theorem b_bool : bootBuiltins "bool" = some (.type "bool") := by decide +kernel
theorem b_list : bootBuiltins "list" = some (.type "list") := by decide +kernel
/-! ## the mathematics of deeds -/
def okL (d : PyData) : Prop := ∀ z, d = .str z → z.length ≤ 100000 ∧ PyData.strOk z = true
def nameB : PyData → Bool
  | .str z => decide (1 ≤ z.length) && (decide (z.length ≤ 6) && z.cps.toList.all fun c => decide (97 ≤ c) && decide (c ≤ 122))
  | _ => false
def wholeB : PyData → Bool
  | .int _ => true
  | _ => false
def betwB (lo hi : Int) : PyData → Bool
  | .int i => decide (lo ≤ i) && decide (i ≤ hi)
  | _ => false
def inB (ws : List Str) : PyData → Bool
  | .str z => decide (z ∈ ws)
  | _ => false
inductive Kd where
  | name | box | number | many | what | words (ws : List Str)
abbrev kdD : Kd → PyData
  | .name => .str "name"
  | .box => .str "box"
  | .number => .str "number"
  | .many => .str "many"
  | .what => .str "what"
  | .words ws => .tuple (ws.map .str)
def fitsB (bs : List Str) : Kd → PyData → Bool
  | .name, d => nameB d
  | .box, d => inB bs d
  | .number, d => betwB 0 9 d
  | .many, d => betwB 1 8 d
  | .what, d => nameB d || betwB 0 9 d
  | .words ws, d => inB ws d
def cName : List AV → (AV → Prop) → Prop := fun as R => ∃ d, as = [.dat d] ∧ okL d ∧ R (.dat (.bool (nameB d)))
def cWhole : List AV → (AV → Prop) → Prop := fun as R => ∃ d, as = [.dat d] ∧ R (.dat (.bool (wholeB d)))
def cBetw : List AV → (AV → Prop) → Prop := fun as R => ∃ d lo hi, as = [.dat d, .dat (.int lo), .dat (.int hi)] ∧ R (.dat (.bool (betwB lo hi d)))
def cIsOf : List AV → (AV → Prop) → Prop := fun as R => ∃ (bs : List Str) (k : Kd) (d : PyData), as = [.dat (.list (bs.map .str)), .dat (kdD k), .dat d] ∧ okL d ∧ R (.dat (.bool (fitsB bs k d)))
def Wrd (l : List Str) : Kd := .words l
def kindsOf (z : Str) : Option (List Kd) :=
  if z = "read" then some [.name, .box, .words ["plain", "loose", "taking"]] else
  if z = "write" then some [.box, .what, .words ["plain", "loose", "giving"]] else
  if z = "change" then some [.name, .box, .words ["add", "put"], .what, .words ["loose", "giving", "taking", "both"]] else
  if z = "swap" then some [.name, .box, .number, .what, .words ["loose", "giving", "taking", "both"]] else
  if z = "wait" then some [.name, .box, .number, .words ["plain", "loose", "taking"]] else
  if z = "grab" then some [.name, .box, .number, .what, .words ["loose", "giving", "taking", "both"]] else
  if z = "fence" then some [.words ["giving", "taking", "both"]] else
  if z = "skip" then some [.name, .words ["is", "isnt"], .number, .many] else
  if z = "claim" then some [.name, .words ["is", "isnt"], .number] else none
theorem kindsOf_len (z : Str) (ks : List Kd) (h : kindsOf z = some ks) : ks.length ≤ 5 := by
  unfold kindsOf at h
  repeat' (split at h)
  all_goals first | (cases h; decide) | cases h
abbrev kindsV (z : Str) : PyData := match kindsOf z with
  | none => .none
  | some ks => .tuple (ks.map kdD)
def deedB (bs : List Str) : PyData → Bool
  | .tuple (.str z :: rest) => match kindsOf z with
    | none => false
    | some ks => decide (rest.length = ks.length) && (ks.zip rest).all fun p => fitsB bs p.1 p.2
  | _ => false
def okT : PyData → Prop
  | .tuple ds => ds.length ≤ 1000 ∧ (∀ x ∈ ds, okL x) ∧ noD (.tuple ds) = true ∧ SeqAt.shaped (.tuple ds) = true
  | _ => True
def cDeed : List AV → (AV → Prop) → Prop := fun as R => ∃ (bs : List Str) (d : PyData), as = [.dat (.list (bs.map .str)), .dat d] ∧ okT d ∧ R (.dat (.bool (deedB bs d)))
def cIn : List AV → (AV → Prop) → Prop := fun as R => ∃ (ws : List Str) (d : PyData), as = [.dat d, .dat (.list (ws.map .str))] ∧ R (.dat (.bool (inB ws d)))
def cWhat : List AV → (AV → Prop) → Prop := fun as R => ∃ d, as = [.dat d] ∧ okL d ∧ R (.dat (.bool (fitsB [] .what d)))
theorem lt_one (a b : Nat) : decide (([a] : List Nat) < [b]) = decide (a < b) := by
  by_cases h : a < b <;> simp [h, List.cons_lt_cons_iff]
def sortsOf (z : Str) : Option Str :=
  if z = "read" then some "nbr" else if z = "write" then some "bwg" else if z = "change" then some "nbhwc" else if z = "swap" then some "nbfwc" else if z = "wait" then some "nbfr" else if z = "grab" then some "nbfwc" else
  if z = "fence" then some "k" else if z = "skip" then some "nifm" else if z = "claim" then some "nif" else none
def sortsV (z : Str) : PyData := match sortsOf z with
  | none => .none
  | some s => .str s
def strV : Option Str → V
  | none => .non
  | some s => .str s
def sortsL (z : Str) : V := strV (sortsOf z)
def cSorts : List AV → (AV → Prop) → Prop := fun as R => ∃ z : Str, as = [.dat (.str z)] ∧ R (.dat (sortsV z))
theorem sortsL_dd {K : PySem.W.Frag} {H : Hp} (z : Str) : Dd K H (sortsL z) (sortsV z) := by
  unfold sortsL sortsV strV
  cases sortsOf z with
  | none => exact .non
  | some s => exact .str s
/-- which kind a sign stands for -/
def kdOf (c : Nat) : Option Kd :=
  if c = 110 then some .name else if c = 98 then some .box else if c = 102 then some .number else if c = 119 then some .what else if c = 109 then some .many else
  if c = 114 then some (.words ["plain", "loose", "taking"]) else if c = 103 then some (.words ["plain", "loose", "giving"]) else if c = 104 then some (.words ["add", "put"]) else
  if c = 99 then some (.words ["loose", "giving", "taking", "both"]) else if c = 107 then some (.words ["giving", "taking", "both"]) else if c = 105 then some (.words ["is", "isnt"]) else none
def cFits : List AV → (AV → Prop) → Prop := fun as R => ∃ (c : Nat) (k : Kd) (bs : List Str) (d : PyData), as = [.dat (.str ⟨#[c]⟩), .dat (.list (bs.map .str)), .dat d] ∧ kdOf c = some k ∧ okL d ∧ R (.dat (.bool (fitsB bs k d)))
theorem sgn_a (c : Nat) : ((⟨#[c]⟩ : Str).cps.toList < ("a" : Str).cps.toList) ↔ c < 97 := by
  have e : ("a" : Str).cps.toList = [97] := by decide +kernel
  rw [e]
  simp [List.cons_lt_cons_iff]
theorem sgn_z (c : Nat) : (("z" : Str).cps.toList < (⟨#[c]⟩ : Str).cps.toList) ↔ 122 < c := by
  have e : ("z" : Str).cps.toList = [122] := by decide +kernel
  rw [e]
  simp [List.cons_lt_cons_iff]
theorem noDA_strs' : ∀ cs : List Nat, noDA (cs.map fun c => .str ⟨#[c]⟩) = true
  | [] => rfl
  | c :: cs => by
    show (noD (.str ⟨#[c]⟩) && noDA (cs.map fun c => .str ⟨#[c]⟩)) = true
    rw [noDA_strs' cs]
    rfl
theorem lay_signs (p : Nat → Bool) : ∀ cs : List Nat, (∀ c ∈ cs, c < 0x110000) → PyData.canLayAll0 ((cs.filter p).map fun c => .str ⟨#[c]⟩) = true ∧ PyData.depthAll ((cs.filter p).map fun c => .str ⟨#[c]⟩) = 0
  | [], _ => ⟨rfl, rfl⟩
  | c :: cs, h => by
    have ih := lay_signs p cs fun x hx => h x (List.mem_cons_of_mem _ hx)
    have hc := h c List.mem_cons_self
    rw [List.filter_cons]
    by_cases hp : p c = true
    · rw [if_pos hp, List.map_cons]
      have e1 : PyData.canLay0 (.str ⟨#[c]⟩) = true := by
        simp only [PyData.canLay0, PyData.strOk]
        simpa using hc
      simp only [PyData.canLayAll0, PyData.depthAll, e1, ih.1, ih.2, PyData.depth]
      exact ⟨rfl, rfl⟩
    · rw [if_neg hp]
      exact ih
theorem shaped_signs (z : Str) (h : PyData.strOk z = true) (p : Nat → Bool) : SeqAt.shaped (.list ((z.cps.toList.filter p).map fun c => .str ⟨#[c]⟩)) = true := by
  have hc : ∀ c ∈ z.cps.toList, c < 0x110000 := fun c hm => by
    have q := Array.all_eq_true'.mp h c (Array.mem_toList_iff.mp hm)
    simpa using q
  have := lay_signs p z.cps.toList hc
  unfold SeqAt.shaped
  simp only [PyData.canLay0, PyData.depth, this.1, this.2]
  decide
theorem eqv_nil (ds : List PyData) : PyData.eqv (.list ds) (.list []) = ds.isEmpty := by
  cases ds <;> simp [PyData.eqv, PyData.eqvAll]
theorem all_filter (p : Nat → Bool) : ∀ l : List Nat, l.all p = (l.filter fun c => !p c).isEmpty
  | [] => rfl
  | c :: l => by
    rw [List.all_cons, List.filter_cons, all_filter p l]
    cases p c <;> simp
theorem flatDs_strs : ∀ ws : List Str, flatDs (ws.map .str) = some (ws.map V.str)
  | [] => rfl
  | w :: ws => by
    show (match flatD (.str w), flatDs (ws.map .str) with | some v, some vs => some (v :: vs) | _, _ => none) = _
    rw [flatDs_strs ws]
    rfl
theorem inV_strs (z : Str) : ∀ ws : List Str, inV (.str z) (ws.map V.str) = decide (z ∈ ws)
  | [] => by simp [inV]
  | w :: ws => by
    have ih := inV_strs z ws
    unfold inV at ih ⊢
    rw [List.map_cons, List.any_cons, ih]
    have e : eqV (V.str w) (V.str z) = decide (w = z) := by
      unfold eqV
      by_cases h : w = z <;> simp [h]
    rw [e]
    by_cases h : z = w
    · subst h; simp
    · have h' : ¬ w = z := fun q => h q.symm
      simp [h, h']
/-- letters of the sign table -/
def abc : Str := "abcdefghijklmnopqrstuvwxyz"
theorem mem_abc (c : Nat) : decide (c ∈ abc.cps.toList) = (decide (97 ≤ c) && decide (c ≤ 122)) := by
  have e : abc.cps.toList = [97, 98, 99, 100, 101, 102, 103, 104, 105, 106, 107, 108, 109, 110, 111, 112, 113, 114, 115, 116, 117, 118, 119, 120, 121, 122] := by decide +kernel
  rw [e]
  by_cases h1 : 97 ≤ c <;> by_cases h2 : c ≤ 122 <;> simp [h1, h2] <;> omega
end Kp


namespace Kp
open PySem PySem.Spec PyProof.Rows L2
/-! ### repr of lists with empty dicts within: of a dict alone it must be known that it is not the modules' one -/
section
variable {X : Cx} {s : Shared} {H : Hp} {σ : L2.St} {pins : List (Addr × Obj)}
mutual
theorem Dd.reprK (I : Inv X pins σ H s) : ∀ (d : PyData) (v : V) (u : Value), Dd X.K H v d → RelV v u → d.showable = true → d.shown.length ≤ sizeLine → ∃ bs, ReadAtMost s.heap d.depth bs ∧ ReprK X.prog X.w bs s.heap d.depth u d.shown
  | .none, _, _, h, r, hs, hz => by
    cases h
    cases r
    exact ⟨[], (fun _ h => nomatch h), by simp only [PyData.shown]; exact .of_is ReprIs.none _ _ _⟩
  | .bool b, _, _, h, r, hs, hz => by
    cases h
    cases r
    exact ⟨[], (fun _ h => nomatch h), by simp only [PyData.shown]; exact .of_is (ReprIs.bool b) _ _ _⟩
  | .int i, _, _, h, r, hs, hz => by
    cases h
    obtain ⟨t, rfl⟩ := r
    exact ⟨[], (fun _ h => nomatch h), by simp only [PyData.shown]; exact .of_is (ReprIs.int t (by simpa [PyData.showable] using hs)) _ _ _⟩
  | .str x, _, _, h, r, hs, hz => by
    cases h
    obtain ⟨t, rfl⟩ := r
    exact ⟨[], (fun _ h => nomatch h), by simp only [PyData.shown]; exact .of_is (ReprIs.str x t (by simpa only [PyData.shown] using hz)) _ _ _⟩
  | .list ds, v, _, h, r, hs, hz => by
    have hd0 := h
    cases h with
    | @lst a _ _ hp ha =>
      cases r
      obtain ⟨_, its, n, rv, e⟩ := (show ObjOk X.prog X.w H s.heap _ (.lst _) from I.hok _ _ hp)
      have hz' : (listText (PyData.shownAll ds)).length ≤ sizeLine := by simpa only [PyData.shown] using hz
      obtain ⟨bs, hb, hk⟩ := DdA.reprK I ds _ its ha rv (by simpa [PyData.showable] using hs) (fun t ht => Nat.le_trans (listText_mem_le ht) hz')
      obtain ⟨as, rd, _⟩ := Dd.reads I _ _ (.ref a) hd0 rfl
      have hna : a ∉ bs := not_mem_of_deeper rd (by simp only [PyData.depth]; omega) hb
      refine ⟨a :: bs, ReadAtMost.cons rd (by simp only [PyData.depth]; omega) hb, ?_⟩
      simp only [PyData.shown, PyData.depth]
      cases its with
      | nil =>
        cases rv
        cases ha
        simp only [listText_nil, PyData.shownAll]
        exact ReprK.listEmpty e rfl rfl
      | cons x l => exact ReprK.list e rfl rfl hna (by simpa using hk.length_eq) (fun i y e => hk.item i y (by simpa using e))
  | .tuple ds, v, _, h, r, hs, hz => by
    have hd0 := h
    cases h with
    | @tup a _ _ hp ha =>
      cases r
      obtain ⟨its, rv, ⟨o, ho, hc, n, hd⟩, _⟩ := I.tuple hp
      have hz' : (tupleText (PyData.shownAll ds)).length ≤ sizeLine := by simpa only [PyData.shown] using hz
      obtain ⟨bs, hb, hk⟩ := DdA.reprK I ds _ its ha rv (by simpa [PyData.showable] using hs) (fun t ht => Nat.le_trans (tupleText_mem_le ht) hz')
      obtain ⟨as, rd, _⟩ := Dd.reads I _ _ (.ref a) hd0 rfl
      have hna : a ∉ bs := not_mem_of_deeper rd (by simp only [PyData.depth]; omega) hb
      refine ⟨a :: bs, ReadAtMost.cons rd (by simp only [PyData.depth]; omega) hb, ?_⟩
      simp only [PyData.shown, PyData.depth]
      exact ReprK.tuple ho hc hd hna hk
  | .dict kvs, v, _, h, r, hs, hz => by
    have hd0 := h
    cases h with
    | @dic a hp =>
      cases r
      obtain ⟨_, hsys, vs, rel, o, es, ep, e, ex, hd, _, hes, _⟩ := (show ObjOk X.prog X.w H s.heap _ (.dK []) from I.hok _ _ hp)
      cases rel
      have hl : es.toList = [] := by
        have z := hes.length
        simpa using z
      obtain ⟨as, rd, _⟩ := Dd.reads I _ _ (.ref a) hd0 rfl
      refine ⟨[a], ReadAtMost.cons rd (n := 0) (Nat.zero_le _) (fun _ h => nomatch h), ?_⟩
      have q : ReprK X.prog X.w (a :: []) s.heap (PyData.dict []).depth (.ref a) (dictText []) := by
        simp only [PyData.depth]
        exact ReprK.dict e ex.1 hd hsys (fun h => nomatch h) (by rw [hl]; exact .nil)
      have e2 : (PyData.dict []).shown = dictText [] := by simp only [PyData.shown, PyData.shownKv]
      rw [e2]
      exact q
theorem DdA.reprK (I : Inv X pins σ H s) : ∀ (ds : List PyData) (vs : List V) (us : List Value), DdA X.K H vs ds → Vals vs us → PyData.showableAll ds = true → (∀ t ∈ PyData.shownAll ds, t.length ≤ sizeLine) →
    ∃ bs, ReadAtMost s.heap (PyData.depthAll ds) bs ∧ ReprAllK X.prog X.w bs s.heap (PyData.depthAll ds) us (PyData.shownAll ds)
  | [], _, _, h, r, _, _ => by
    cases h
    cases r
    exact ⟨[], (fun _ h => nomatch h), by simp only [PyData.shownAll]; exact .nil⟩
  | d :: ds, _, _, h, r, hs, hz => by
    cases h with
    | cons h1 h2 =>
      cases r with
      | cons r1 r2 =>
        have two : d.showable = true ∧ PyData.showableAll ds = true := by simpa [PyData.showableAll] using hs
        obtain ⟨b1, hb1, k1⟩ := Dd.reprK I d _ _ h1 r1 two.1 (hz _ (by simp only [PyData.shownAll]; exact List.mem_cons_self ..))
        obtain ⟨b2, hb2, k2⟩ := DdA.reprK I ds _ _ h2 r2 two.2 (fun t ht => hz t (by simp only [PyData.shownAll]; exact List.mem_cons_of_mem _ ht))
        refine ⟨b1 ++ b2, ?_, ?_⟩
        · intro b hm
          simp only [PyData.depthAll]
          exact (List.mem_append.mp hm).elim (fun g => let ⟨d1, as1, r1, le1⟩ := hb1 b g; ⟨d1, as1, r1, Nat.le_trans le1 (Nat.le_max_left _ _)⟩)
            fun g => let ⟨d1, as1, r1, le1⟩ := hb2 b g; ⟨d1, as1, r1, Nat.le_trans le1 (Nat.le_max_right _ _)⟩
        · simp only [PyData.shownAll, PyData.depthAll]
          exact .cons ((k1.more fun _ => List.mem_append_left _).level_le (Nat.le_max_left _ _)) (k2.more_le (fun _ => List.mem_append_right _) (Nat.le_max_right _ _))
end
theorem showsBy_dd (I : Inv X pins σ H s) {a : Addr} {ds : List PyData} (hd : Dd X.K H (.ref a) (.list ds)) (hs : (PyData.list ds).showable = true) (hz : (PyData.list ds).shown.length ≤ sizeLine) : ∃ T idr, ShowsBy X.prog X.w s.heap a (.list ds) T idr := by
  have hd0 := hd
  cases hd with
  | lst hp ha =>
    obtain ⟨_, its, n, rv, e⟩ := (show ObjOk X.prog X.w H s.heap _ (.lst _) from I.hok _ _ hp)
    have hz' : (listText (PyData.shownAll ds)).length ≤ sizeLine := by simpa only [PyData.shown] using hz
    obtain ⟨bs, hb, hk⟩ := DdA.reprK I ds _ its ha rv (by simpa [PyData.showable] using hs) (fun t ht => Nat.le_trans (listText_mem_le ht) hz')
    obtain ⟨as, rd, _⟩ := Dd.reads I _ _ (.ref a) hd0 rfl
    have hna : a ∉ bs := not_mem_of_deeper rd (by simp only [PyData.depth]; omega) hb
    refine ⟨"list", "list.__repr__", F.slot_list_repr.toG, F.slot_list_str, F.slot_list_format, fun s hk0 => ⟨_, hk0 _ _ e, rfl⟩, fun A E s Q hg hu hk0 hQ => ?_⟩
    simp only [PyData.depth] at hu
    simp only [PyData.shown] at hQ
    cases its with
    | nil =>
      cases rv
      cases ha
      simp only [listText_nil, PyData.shownAll] at hQ
      exact call_list_repr_empty ⟨_, hk0 _ _ e, rfl⟩ (hk0 _ _ e) rfl (hQ s.heap _ _ fun _ _ e => e)
    | cons x l =>
      exact call_list_reprK e rfl rfl hna (by simpa using hk.length_eq) (fun i y e => hk.item i y (by simpa using e)) hg (fun b _ => Clear.nil b) hu hk0 hQ hz'
def rReprL (K : PySem.W.Frag) : List V → Hp → VK → Prop := fun xs H Q => ∃ p ds, xs = [.ref p] ∧ Dd K H (.ref p) (.list ds) ∧ (PyData.list ds).showable = true ∧ (PyData.list ds).depth ≤ 20 ∧ (PyData.list ds).shown.length ≤ sizeLine ∧ Q (.str (PyData.list ds).shown) H
theorem call_reprL (hg : X.A.guards = some []) (hu : X.A.units + 64 < cLine) : CallR X (.builtin "repr") (rReprL X.K) := by
  intro pn s1 σ1 H1 xs us Q I r h
  obtain ⟨p, ds, rfl, hd, h1, h3, h4, q⟩ := h
  obtain ⟨v1, rfl, ru⟩ := vals1 r
  cases ru
  obtain ⟨T, idr, S⟩ := showsBy_dd I hd h1 h4
  exact call_repr_slot (by omega) (S.typeIs s1 fun _ _ e => e) S.slotRepr (S.call X.A.in1 _ s1 _ hg (by show X.A.units + 1 + (PyData.list ds).depth < cLine; omega) (fun _ _ e => e) fun h' u tk hk => ⟨_, _, rfl, .str (PyData.list ds).shown, H1, I.kept hk, ⟨_, rfl⟩, q⟩)
abbrev reprSL : List AV → (AV → Prop) → Prop
  | [.dat (.list ds)], R => (PyData.list ds).showable = true ∧ (PyData.list ds).depth ≤ 20 ∧ (PyData.list ds).shown.length ≤ 16777216 ∧ R (.dat (.str (PyData.list ds).shown))
  | _, _ => False
theorem dl_reprL (hg : X.A.guards = some []) (hu : X.A.units + 64 < cLine) : DCl X (.builtin "repr") reprSL := ⟨_, call_reprL hg hu, fun xs R hy vs w Q av q => by
  unfold reprSL at hy
  split at hy
  · obtain ⟨v, rfl, hv⟩ := av.one
    obtain ⟨h1, h3, h4, hr⟩ := hy
    cases hv with
    | lst a1 d1 => exact ⟨_, _, rfl, Dd.mono w.sub (.lst a1 d1), h1, h3, by rw [sizeLine_eq]; exact h4, go q (.str _) hr⟩
  · exact hy.elim⟩
end
end Kp


namespace Kp
open PySem PySem.Spec PyProof.Rows L2
/-! ### small data: so deep at most, few and short -/
def sm : Nat → PyData → Bool
  | _, .none => true
  | _, .bool _ => true
  | _, .int i => decide (i.natAbs < 10 ^ 21)
  | _, .str z => decide (z.length ≤ 20) && PyData.strOk z
  | 0, _ => false
  | n + 1, .list ds => decide (ds.length ≤ 20) && ds.all (sm n)
  | n + 1, .tuple ds => decide (ds.length ≤ 20) && ds.all (sm n)
  | _ + 1, .dict kvs => kvs.isEmpty
def smB : Nat → Nat
  | 0 => 300
  | n + 1 => 20 * (smB n + 2) + 4
theorem smB_le (n : Nat) : 300 ≤ smB n := by
  induction n with
  | zero => exact Nat.le_refl _
  | succ n ih => unfold smB; omega
theorem sum_le {l : List Str} {b : Nat} (h : ∀ t ∈ l, t.length ≤ b) : (l.map (·.length)).sum ≤ l.length * b := by
  induction l with
  | nil => exact Nat.zero_le _
  | cons x l ih =>
    have h1 := h x List.mem_cons_self
    have h2 := ih fun t ht => h t (List.mem_cons_of_mem _ ht)
    simp only [List.map_cons, List.sum_cons, List.length_cons, Nat.succ_mul]
    omega
theorem join_le {l : List Str} {b : Nat} (h : ∀ t ∈ l, t.length ≤ b) (hl : l.length ≤ 20) : (Str.join ", " l).length ≤ 20 * (b + 2) := by
  have h1 := StrLaws.join_length_le ", " l
  have h2 := sum_le h
  have h3 : ((", " : String) : Str).length = 2 := rfl
  rw [h3] at h1
  have h4 : l.length * b + l.length * 2 = l.length * (b + 2) := by rw [Nat.mul_add]
  have h5 : l.length * (b + 2) ≤ 20 * (b + 2) := Nat.mul_le_mul_right _ hl
  omega
theorem shownAll_mem : ∀ {ds : List PyData} {t : Str}, t ∈ PyData.shownAll ds → ∃ d ∈ ds, t = d.shown
  | [], t, h => by simp only [PyData.shownAll] at h; cases h
  | d :: ds, t, h => by
    simp only [PyData.shownAll] at h
    rcases List.mem_cons.mp h with h | h
    · exact ⟨d, List.mem_cons_self, h⟩
    · obtain ⟨e, h1, h2⟩ := shownAll_mem h
      exact ⟨e, List.mem_cons_of_mem _ h1, h2⟩
theorem showableAll_of : ∀ {ds : List PyData}, (∀ d ∈ ds, d.showable = true) → PyData.showableAll ds = true
  | [], _ => by simp only [PyData.showableAll]
  | d :: ds, h => by
    simp only [PyData.showableAll, h d List.mem_cons_self, showableAll_of fun x hx => h x (List.mem_cons_of_mem _ hx), Bool.and_self]
theorem depthAll_of {n : Nat} : ∀ {ds : List PyData}, (∀ d ∈ ds, d.depth ≤ n) → PyData.depthAll ds ≤ n
  | [], _ => by simp only [PyData.depthAll]; exact Nat.zero_le _
  | d :: ds, h => by
    simp only [PyData.depthAll]
    exact Nat.max_le.mpr ⟨h d List.mem_cons_self, depthAll_of fun x hx => h x (List.mem_cons_of_mem _ hx)⟩
theorem sm_atom_int {i : Int} (h : i.natAbs < 10 ^ 21) : (PyData.int i).showable = true ∧ (PyData.int i).shown.length ≤ 300 := by
  constructor
  · simp only [PyData.showable, decide_eq_true_eq]
    have : i.natAbs.log2 < 1920 := by
      by_cases z : i.natAbs = 0
      · rw [z]; decide
      · have q : i.natAbs.log2 < 70 := (Nat.log2_lt z).mpr (Nat.lt_trans h (by decide))
        omega
    exact this
  · simp only [PyData.shown]
    have := int_text_length_le10 (a := i) (k := 21) (by decide) h
    rw [PySem.ofString_length]
    omega
theorem sm_atom_str {z : Str} (h : (decide (z.length ≤ 20) && PyData.strOk z) = true) : (PyData.str z).shown.length ≤ 300 := by
  rw [Bool.and_eq_true, decide_eq_true_eq] at h
  simp only [PyData.shown]
  have := StrLaws.reprText_len z fun c hc => by
    have q := Array.all_eq_true'.mp h.2 c (Array.mem_toList_iff.mp hc)
    have q : c < 1114112 := by simpa using q
    exact Nat.lt_trans q (by decide)
  omega
theorem sm_ok : ∀ (n : Nat) (d : PyData), sm n d = true → d.showable = true ∧ d.depth ≤ n ∧ d.shown.length ≤ smB n
  | n, .none, h => ⟨by simp only [PyData.showable], by simp only [PyData.depth]; exact Nat.zero_le _, by simp only [PyData.shown]; exact Nat.le_trans (by decide) (smB_le n)⟩
  | n, .bool b, h => ⟨by simp only [PyData.showable], by simp only [PyData.depth]; exact Nat.zero_le _, by simp only [PyData.shown]; exact Nat.le_trans (by cases b <;> decide) (smB_le n)⟩
  | n, .int i, h => by
    have h : decide (i.natAbs < 10 ^ 21) = true := by cases n <;> exact h
    have := sm_atom_int (of_decide_eq_true h)
    exact ⟨this.1, by simp only [PyData.depth]; exact Nat.zero_le _, Nat.le_trans this.2 (smB_le n)⟩
  | n, .str z, h => by
    have h : (decide (z.length ≤ 20) && PyData.strOk z) = true := by cases n <;> exact h
    exact ⟨by simp only [PyData.showable], by simp only [PyData.depth]; exact Nat.zero_le _, Nat.le_trans (sm_atom_str h) (smB_le n)⟩
  | 0, .list ds, h => by cases h
  | 0, .tuple ds, h => by cases h
  | 0, .dict ds, h => by cases h
  | n + 1, .list ds, h => by
    have h : (decide (ds.length ≤ 20) && ds.all (sm n)) = true := h
    rw [Bool.and_eq_true, decide_eq_true_eq, List.all_eq_true] at h
    have ih := fun d hd => sm_ok n d (h.2 d hd)
    refine ⟨?_, ?_, ?_⟩
    · simp only [PyData.showable]
      exact showableAll_of fun d hd => (ih d hd).1
    · simp only [PyData.depth]
      exact Nat.succ_le_succ (depthAll_of fun d hd => (ih d hd).2.1)
    · rw [PyData.shown_list, Str.length_append, Str.length_append]
      have := join_le (l := PyData.shownAll ds) (b := smB n) (fun t ht => by
        obtain ⟨d, hd, rfl⟩ := shownAll_mem ht
        exact (ih d hd).2.2) (by rw [PyData.shownAll_length]; exact h.1)
      have e1 : (("[" : String) : Str).length = 1 := rfl
      have e2 : (("]" : String) : Str).length = 1 := rfl
      unfold smB
      omega
  | n + 1, .tuple ds, h => by
    have h : (decide (ds.length ≤ 20) && ds.all (sm n)) = true := h
    rw [Bool.and_eq_true, decide_eq_true_eq, List.all_eq_true] at h
    have ih := fun d hd => sm_ok n d (h.2 d hd)
    refine ⟨?_, ?_, ?_⟩
    · simp only [PyData.showable]
      exact showableAll_of fun d hd => (ih d hd).1
    · simp only [PyData.depth]
      exact Nat.succ_le_succ (depthAll_of fun d hd => (ih d hd).2.1)
    · rw [PyData.shown_tuple, Str.length_append, Str.length_append]
      have := join_le (l := PyData.shownAll ds) (b := smB n) (fun t ht => by
        obtain ⟨d, hd, rfl⟩ := shownAll_mem ht
        exact (ih d hd).2.2) (by rw [PyData.shownAll_length]; exact h.1)
      have e1 : (("(" : String) : Str).length = 1 := rfl
      have e2 : (((if ds.length == 1 then ",)" else ")" : String)) : Str).length ≤ 2 := by split <;> decide
      unfold smB
      omega
  | n + 1, .dict kvs, h => by
    have h : kvs.isEmpty = true := h
    have : kvs = [] := List.isEmpty_iff.mp h
    subst this
    exact ⟨by simp only [PyData.showable, PyData.showableKv], by simp only [PyData.depth, PyData.depthKv]; omega, by rw [PyData.shown_dict]; exact Nat.le_trans (by decide) (smB_le _)⟩
end Kp


namespace Kp
open PySem PySem.Spec PyProof.Rows L2
section
variable {X : Cx} {w0 : Wl} {ss : SS} {a b : Expr} {pos : Pos} {R : AV → Prop}
/-! ### a number drawn from the pool -/
theorem k_take (i : Nat) {x : Str} {j : Nat} {p p2 : Pos} (D : Dn X.prog X.w X.K X.mg X.base "_law_take" 1 cTake) (hr : Room j X.A) (hj : 1 ≤ j) (hg : Gl X "_law_take") (hN : X.N[i]? = some x) (hs : ss[i]? = some (some .pool))
    (h : KE X w0 b ss fun y => onInt y fun n => 0 < n ∧ n < 1073741824 ∧ ∀ r : Nat, (r : Int) < n → R (.dat (.int (r : Int))))
    (hv : Vis X.env.scope x := by first | exact Or.inl rfl | exact Or.inr (Or.inl rfl) | exact Or.inr (Or.inr rfl)) (hd : (x == ("__debug__" : Str)) = false := by decide)
    (hcd : (x == ("__classdict__" : Str)) = false := by decide)
    (h1 : starEach [.Name x p2, b] X.env = (false, eval (.Name x p2) X.env) :: starEach [b] X.env := by rfl) (h2 : starEach [b] X.env = (false, eval b X.env) :: starEach [] X.env := by rfl) (hpl : (backTo pos (starEach [b] X.env)).any (·.1) = false := by rfl) :
    KE X w0 (.Call (.Name "_law_take" p) [.Name x p2, b] [] pos) ss R :=
  k_cd D hr hj hg (ka_cons (k_var i hN hs (ka_cons (KE.weak h fun y hy => by
    obtain ⟨n, rfl, n0, n1, hR⟩ := hy.of
    exact ka_nil ⟨rfl, n, rfl, n0, n1, fun r r0 r1 => by
      have q := hR r.toNat (by omega)
      rw [Int.toNat_of_nonneg r0] at q
      exact q⟩) h2) hv hd hcd) h1) (by decide) h1 hpl
/-- a row of texts, as they stand -/
def strsE : List Expr → Option (List Str)
  | [] => some []
  | .Constant (.str z) _ _ :: es => (strsE es).map (z :: ·)
  | _ :: _ => none
theorem ka_strs : ∀ {es : List Expr} {zs : List Str} {R : List AV → Prop}, strsE es = some zs → R (zs.map fun z => .dat (.str z)) → KA X w0 es ss R
  | [], _, _, e, h => by
    cases e
    exact ka_nil h
  | e :: es, zs, R, q, h => by
    unfold strsE at q
    split at q
    · rename_i q1
      cases q1
    · rename_i q1
      cases q1
      cases q2 : strsE es with
      | none => rw [q2] at q; cases q
      | some ys =>
        rw [q2] at q
        cases q
        exact ka_cons (k_str (ka_strs q2 h))
    · cases q
theorem onDats_strs : ∀ {zs : List Str} {P : List PyData → Prop}, P (zs.map .str) → onDats (zs.map fun z => AV.dat (.str z)) P
  | [], _, h => h
  | z :: zs, P, h => by
    show onDats (zs.map fun z => AV.dat (.str z)) fun ds => P (.str z :: ds)
    exact onDats_strs h
/-- a list of texts as it stands -/
theorem k_strs {es : List Expr} {zs : List Str} (e : strsE es = some zs) (hz : zs.length ≤ 100000) (hR : R (.dat (.list (zs.map .str)))) : KE X w0 (.List es pos) ss R :=
  k_lst (ka_strs e (onDats_strs ⟨by rw [List.length_map]; exact hz, hR⟩))
/-- one of the items of a list -/
theorem at_any {ds : List PyData} {r : Nat} (h : (r : Int) < ds.length) : ∃ d, atI ds r = some d ∧ d ∈ ds := by
  have h : r < ds.length := by omega
  exact ⟨ds[r], atI_nat (by simp [h]), List.getElem_mem h⟩
theorem k_pick (i : Nat) {x : Str} {j : Nat} {p p2 cpos : Pos} (D : Dn X.prog X.w X.K X.mg X.base "_law_take" 1 cTake) (hr : Room j X.A) (hj : 1 ≤ j) (hg : Gl X "_law_take") (hN : X.N[i]? = some x) (hs : ss[i]? = some (some .pool))
    (h : KE X w0 a ss fun y => onList y fun ds => KE X w0 b ss fun y => onInt y fun n => 0 < n ∧ n ≤ 10000 ∧ n ≤ ds.length ∧ ∀ d ∈ ds, R (.dat d))
    (hv : Vis X.env.scope x := by first | exact Or.inl rfl | exact Or.inr (Or.inl rfl) | exact Or.inr (Or.inr rfl)) (hd : (x == ("__debug__" : Str)) = false := by decide)
    (hcd : (x == ("__classdict__" : Str)) = false := by decide)
    (h1 : starEach [.Name x p2, b] X.env = (false, eval (.Name x p2) X.env) :: starEach [b] X.env := by rfl) (h2 : starEach [b] X.env = (false, eval b X.env) :: starEach [] X.env := by rfl) (hpl : (backTo cpos (starEach [b] X.env)).any (·.1) = false := by rfl) :
    KE X w0 (.Subscript a (.Call (.Name "_law_take" p) [.Name x p2, b] [] cpos) pos) ss R :=
  k_idx (fun _ _ => rfl) (KE.weak h fun y hy => by
    unfold onList at hy
    split at hy
    · rename_i ds
      refine k_take i D hr hj hg hN hs (KE.weak hy fun y hy => ?_) hv hd hcd h1 h2 hpl
      obtain ⟨n, rfl, n0, n1, n2, hR⟩ := hy.of
      refine ⟨n0, by omega, fun r hr => ?_⟩
      obtain ⟨d, e1, e2⟩ := at_any (ds := ds) (r := r) (by omega)
      exact ⟨d, e1, hR d e2⟩
    · exact hy.elim)
end
/-! ### small data are shaped -/
theorem sm_lay : ∀ (n : Nat) (d : PyData), sm n d = true → noD d = true → PyData.canLay0 d = true
  | n, .none, _, _ => by simp only [PyData.canLay0]
  | n, .bool _, _, _ => by simp only [PyData.canLay0]
  | n, .int _, _, _ => by simp only [PyData.canLay0]
  | n, .str z, h, _ => by
    have h : (decide (z.length ≤ 20) && PyData.strOk z) = true := by cases n <;> exact h
    rw [Bool.and_eq_true] at h
    simp only [PyData.canLay0]
    exact h.2
  | 0, .list ds, h, _ => by cases h
  | 0, .tuple ds, h, _ => by cases h
  | n + 1, .list ds, h, q => by
    have h : (decide (ds.length ≤ 20) && ds.all (sm n)) = true := h
    rw [Bool.and_eq_true, List.all_eq_true] at h
    simp only [PyData.canLay0]
    exact all (fun d hd qd => sm_lay n d (h.2 d hd) qd) q
  | n + 1, .tuple ds, h, q => by
    have h : (decide (ds.length ≤ 20) && ds.all (sm n)) = true := h
    rw [Bool.and_eq_true, List.all_eq_true] at h
    simp only [PyData.canLay0]
    exact all (fun d hd qd => sm_lay n d (h.2 d hd) qd) q
  | _, .dict _, _, q => by cases q
where
  all : ∀ {ds : List PyData}, (∀ d ∈ ds, noD d = true → PyData.canLay0 d = true) → noDA ds = true → PyData.canLayAll0 ds = true
    | [], _, _ => by simp only [PyData.canLayAll0]
    | d :: ds, h, q => by
      have q : (noD d && noDA ds) = true := q
      rw [Bool.and_eq_true] at q
      simp only [PyData.canLayAll0, h d List.mem_cons_self q.1, all (fun x hx => h x (List.mem_cons_of_mem _ hx)) q.2, Bool.and_self]
theorem okL_sm {n : Nat} {d : PyData} (h : sm n d = true) : okL d := fun z e => by
  subst e
  have h : (decide (z.length ≤ 20) && PyData.strOk z) = true := by cases n <;> exact h
  rw [Bool.and_eq_true, decide_eq_true_eq] at h
  exact ⟨by omega, h.2⟩
theorem okT_sm {n : Nat} {d : PyData} (hn : n ≤ 10) (h : sm n d = true) (q : noD d = true) : okT d := by
  cases d with
  | tuple ds =>
    have hl := sm_lay n _ h q
    have hd := (sm_ok n _ h).2.1
    cases n with
    | zero => cases h
    | succ n =>
      have h : (decide (ds.length ≤ 20) && ds.all (sm n)) = true := h
      rw [Bool.and_eq_true, decide_eq_true_eq, List.all_eq_true] at h
      refine ⟨by omega, fun x hx => okL_sm (h.2 x hx), q, ?_⟩
      unfold SeqAt.shaped
      rw [hl, Bool.true_and]
      exact decide_eq_true (by omega)
  | _ => trivial
end Kp


namespace Kp
open PySem PySem.Spec PyProof.Rows HT
open PySem.SeqAt
open PySem.AutoSeq1 (wpAny_loadPart')
open PySem.MeetsSeq PySem.MeetsSeq2 PySem.MeetsSeq3
/-! ### t[::-1] of a tuple -/
theorem adjust_back (n : Nat) : Builtin.Slice.sliceAdjust none none (-1) (n : Int) = ((n : Int) - 1, -1) := rfl
theorem places_back (n : Nat) : Builtin.Slice.slicePlaces ((n : Int) - 1) (-1) (-1) = n := by
  unfold Builtin.Slice.slicePlaces
  have neg1 : ¬ ((-1 : Int) > 0) := by decide
  rw [if_neg neg1]
  by_cases g : (n : Int) - 1 > -1
  · rw [if_pos g, show (-(-1) : Int) = 1 by decide, Int.ediv_one]
    omega
  · rw [if_neg g]
    have : n = 0 := by omega
    subst this
    rfl
theorem pick_back (xs : Array Value) : ((List.range xs.size).filterMap fun (k : Nat) => xs[(((xs.size : Int) - 1) + (k : Int) * (-1)).toNat]?).toArray = xs.toList.reverse.toArray := by
  have neg1 := PySem.W.krv_all xs
  have h2 := PySem.W.krv_range xs.size
  have e : (fun (k : Nat) => xs[(((xs.size : Int) - 1) + (k : Int) * (-1)).toNat]?) = (fun k => xs[k]?) ∘ fun k => xs.size - 1 - k := by
    funext k
    have : (((xs.size : Int) - 1) + (k : Int) * (-1)).toNat = xs.size - 1 - k := by omega
    show xs[(((xs.size : Int) - 1) + (k : Int) * (-1)).toNat]? = xs[xs.size - 1 - k]?
    rw [this]
  rw [e, ← List.filterMap_map, h2, List.filterMap_reverse, neg1]
section
variable {prg : Program} {w : World} {A : Around} {E : Value → Shared → Prop} {s : Shared}
theorem sliceApplied_back {sl : Addr} {v1 v2 v3 : Value} {n : Nat} {Q : Int × Int × Nat → Shared → Prop} (hS : s.heap.IsSliceOf sl v1 v2 v3) (pL : IsPart v1 none) (pU : IsPart v2 none) (pS : IsPart v3 (some (-1)))
    (h : Q ((n : Int) - 1, -1, n) s) : wpAny (model prg w) A (Builtin.Slice.sliceApplied (.ref sl) (pure (n : Int))) Q E s := by
  obtain ⟨ob, fo, fc, fz⟩ := id hS
  unfold Builtin.Slice.sliceApplied
  unfold Builtin.Slice.sliceFields
  refine wpAny_bind (wpAny_bind (wpAny_field fo fz (x := v1) rfl (wpAny_bind (wpAny_field fo fz (x := v2) rfl (wpAny_bind (wpAny_field fo fz (x := v3) rfl (wpAny_pure ?_)))))))
  refine wpAny_bind (slicePart_ pS ?_)
  show wpAny _ _ (if ((-1 : Int) == 0) = true then _ else _) _ _ s
  rw [if_neg (by decide)]
  refine wpAny_bind (slicePart_ pL (wpAny_bind (slicePart_ pU (wpAny_bind (wpAny_pure ?_)))))
  show wpAny _ _ (match Builtin.Slice.sliceAdjust none none (-1) (n : Int) with | (lo, hi) => pure (lo, (-1 : Int), Builtin.Slice.slicePlaces lo hi (-1))) _ _ s
  rw [adjust_back n]
  show wpAny _ _ (pure (((n : Int) - 1), (-1 : Int), Builtin.Slice.slicePlaces ((n : Int) - 1) (-1) (-1))) _ _ s
  rw [places_back]
  exact wpAny_pure h
theorem getItem_tuple_back {t sl : Addr} {ws : Array Value} {v1 v2 v3 : Value} {Q : Value → Shared → Prop} (hT : IsTup s.heap t ws) (hS : s.heap.IsSliceOf sl v1 v2 v3) (pL : IsPart v1 none) (pU : IsPart v2 none) (pS : IsPart v3 (some (-1)))
    (h : Q (.ref s.heap.objs.size) { s with heap := s.heap.push { cls := .type "tuple", data := .seq ws.toList.reverse.toArray } })
    (hz2 : ws.size ≤ sizeLine) : wpAny (model prg w) A (getItem (.ref t) (.ref sl)) Q E s := by
  have hfit : sizeOk (.seq ws.toList.reverse.toArray) := by
    show ws.toList.reverse.toArray.size ≤ sizeLine
    rw [List.size_toArray, List.length_reverse, Array.length_toList]
    exact hz2
  obtain ⟨ob, fo, fc, fz⟩ := id hS
  have tS : s.TypeIs (.ref sl) "slice" := ⟨ob, fo, fc⟩
  unfold getItem
  (try with_reducible refine wpAny_holding ?_)
  (first | refine wpAny_bind (wpAny_pure ?_) | skip)
  refine wpAny_bind (wpAny_sequenceKey hT.typeIs (by decide) ?_)
  refine wpAny_bind (wpAny_callSpecial?_slot (name := Str.ofString "__getitem__") hT.typeIs PyProof.Rows.slot_tuple_getitem
    (wpAny_call_entry PyProof.Rows.slot_tuple_getitem hT.typeIs entry_tuple_getitem ?_ (args_tuple_getitem _ _)))
  show wpAny (model prg w) _ (Builtin.Tuple.tupleItemsOf (.ref t) >>= _) _ _ s
  refine wpAny_bind (tupleItemsOf_ hT ?_)
  refine wpAny_bind (wpAny_typeOf tS ?_)
  rw [if_pos (by decide)]
  refine wpAny_bind (sliceApplied_back hS pL pU pS ?_)
  have hnot : ¬ ((((ws.size : Int) - 1) == 0 && (-1 : Int) == 1 && ws.size == ws.size) = true) := by
    intro q
    simp only [Bool.and_eq_true] at q
    exact absurd q.1.2 (by decide)
  show wpAny _ _ (if (((ws.size : Int) - 1) == 0 && (-1 : Int) == 1 && ws.size == ws.size) = true then _ else _) _ _ s
  rw [if_neg hnot, pick_back]
  first
    | exact wpAny_bind (m := Builtin.Tuple.tupleExact _) (wpAny_newObj_type (wpAny_pure ⟨_, rfl, wpAny_pure h⟩) hfit)
    | exact wpAny_bind (m := Builtin.Tuple.tupleExact _) (wpAny_newObj_type (wpAny_bind (wpAny_pure (wpAny_pure ⟨_, rfl, wpAny_pure h⟩))) hfit)
end
end Kp
namespace Kp
open PySem PySem.Spec PyProof.Rows L2
section
variable {X : Cx}
def tRevT (K : PySem.W.Frag) (te : TE) : TE := fun σ H Q => te σ H fun x G1 => ∃ a xs, x = .ref a ∧ SqT K G1 a xs ∧ ∀ p, G1 p = none → Q (.ref p) (upd G1 p (.tup xs.reverse))
theorem pe_revT {e : Expr} {te : TE} {k : Nat} {p1 p2 p3 pos : Pos} (he : PE X e te) : PE X (.Subscript e (.Slice none none (some (.UnaryOp .USub (.Constant (.int 1) k p1) p2)) p3) pos) (tRevT X.K te) := by
  refine ⟨fun pins s σ H Q I hq => ?_⟩
  refine Subscript_ (thn (he.run pins s σ H _ I hq) fun v t1 ⟨x, G1, J1, r1, z1⟩ => ?_)
  obtain ⟨a, xs, ex, hx, q⟩ := z1
  subst ex
  cases r1
  have hstep : PO X (some (.UnaryOp .USub (.Constant (.int 1) k p1) p2)) (tPart (tUn (rU fun i => .int (-i)) (tC (.int 1)))) := po_some (pe_un un_neg pe_int)
  refine wpAny_Slice (thn (po_none.run pins t1 σ G1 (fun o G2 => o = none ∧ G2 = G1) J1 ⟨rfl, rfl⟩) fun v1 t2 ⟨l, G2, J2, pL, el, e2⟩ => ?_)
  subst el e2
  refine thn (po_none.run pins t2 σ G2 (fun o G3 => o = none ∧ G3 = G2) J2 ⟨rfl, rfl⟩) fun v2 t3 ⟨u, G3, J3, pU, eu, e3⟩ => ?_
  subst eu e3
  refine thn (hstep.run pins t3 σ G3 (fun o G4 => o = some (-1) ∧ G4 = G3) J3 ⟨1, rfl, -1, rfl, rfl, rfl⟩) fun v3 t4 ⟨o, G4, J4, pS, eo, e4⟩ => ?_
  subst eo e4
  have J5 : Inv X pins σ G4 { t4 with heap := t4.heap.push { cls := .type "slice", data := .fields #[v1, v2, v3] } } := J4.kept (t' := t4.toks) fun b ob q => Heap.get?_push_of_some _ q
  obtain ⟨its, r, hT, hz⟩ := J5.tuple hx
  have hlen := r.length
  show wpAny (model X.prog X.w) X.A (subscriptTail e (.Slice none none (some (.UnaryOp .USub (.Constant (.int 1) k p1) p2)) p3) (.ref a) (.ref t4.heap.objs.size)) (EP X pins σ Q) X.xe { t4 with heap := t4.heap.push { cls := .type "slice", data := .fields #[v1, v2, v3] } }
  refine tail_any (ops := [.ref a, .ref t4.heap.objs.size]) hT.typeIs (PyProof.Rows.slot_tuple_getitem.lookup) ?_ (by with_unfolding_all rfl)
  refine getItem_tuple_back hT (Heap.IsSliceOf.new _ v1 v2 v3) pL pU pS ?_ (by rw [List.size_toArray]; omega)
  refine ⟨.ref _, _, J5.laid (t' := t4.toks) (o := .tup xs.reverse) (fun b ob q => Heap.get?_push_of_some _ q) (Nat.le_refl _) ?_, rfl, q _ (J5.hok.fresh (Nat.le_refl _))⟩
  exact ⟨by rw [List.length_reverse]; exact hz, _, r.reverse, IsTup.new _ _⟩
theorem k_revT {w0 : Wl} {ss : SS} {a : Expr} {k : Nat} {p1 p2 p3 pos : Pos} {R : AV → Prop} (h : KE X w0 a ss fun x => onTup x fun ds => R (.dat (.tuple ds.reverse))) : KE X w0 (.Subscript a (.Slice none none (some (.UnaryOp .USub (.Constant (.int 1) k p1) p2)) p3) pos) ss R :=
  PE.imp (pe_revT h) fun σ H Q ⟨w, ew, hS, q⟩ => ⟨w, ew, hS, fun v a w1 l1 hv hk => by
    have hk : onTup a fun ds => R (.dat (.tuple ds.reverse)) := hk
    unfold onTup at hk
    split at hk
    · cases hv with
      | tup neg1 d1 => exact ⟨_, _, rfl, w1.t neg1, Le.tup d1.rev hk fun v a w' l x r => q v a w' (l1.trans l) x r⟩
    · exact hk.elim⟩
end
end Kp


namespace Kp
open PySem PySem.Spec PyProof.Rows L2
/-! ### defs that raise an own error with fields -/
theorem FdA.zip {K : PySem.W.Frag} {H : Hp} : ∀ (ns : List Str) {ws : List V} {ds : List PyData}, DdA K H ws ds → FdA K H (ns.zip ws) (ns.zip ds)
  | [], _, _, _ => by
    rw [List.zip_nil_left, List.zip_nil_left]
    exact ⟨rfl, .nil⟩
  | n :: ns, _, _, .nil => by
    rw [List.zip_nil_right, List.zip_nil_right]
    exact ⟨rfl, .nil⟩
  | n :: ns, _, _, .cons a t => by
    obtain ⟨h1, h2⟩ := FdA.zip ns t
    rw [List.zip_cons_cons, List.zip_cons_cons]
    exact ⟨congrArg (n :: ·) h1, .cons a h2⟩
theorem FdA.rev {K : PySem.W.Frag} {H : Hp} {fs : List (Str × V)} {ds : List (Str × PyData)} (h : FdA K H fs ds) : FdA K H fs.reverse ds.reverse := by
  refine ⟨?_, ?_⟩
  · rw [List.map_reverse, List.map_reverse, h.1]
  · rw [List.map_reverse, List.map_reverse]
    exact h.2.rev
theorem exFree {H H' : Hp} {p : Addr} (e : Ex H H') (h : H' p = none) : H p = none := by
  cases q : H p with
  | none => rfl
  | some o =>
    have z := e p o q
    rw [h] at z
    cases z
/-- what is wanted where an error leaves -/
def outS (K : PySem.W.Frag) (w0 : Wl) (RX : Addr → List (Str × PyData) → Prop) (E : XK) : Prop :=
  ∀ (C d : Addr) (fs : List (Str × V)) (ds : List (Str × PyData)) (w' : Wl), Le w0 w' → w0.h d = none → w'.h d = some (.xd fs) → w'.g d = none → FdA K w'.g fs ds → RX C ds → E (.ref C) (some d) w'.h
theorem outS.mono {K : PySem.W.Frag} {w0 w1 : Wl} {RX : Addr → List (Str × PyData) → Prop} {E : XK} (l : Le w0 w1) (h : outS K w0 RX E) : outS K w1 RX E :=
  fun C d fs ds w' l1 hd hx hg hf r => h C d fs ds w' (l.trans l1) (exFree l.h hd) hx hg hf r
def spX (K : PySem.W.Frag) (C : List AV → (AV → Prop) → (Addr → List (Str × PyData) → Prop) → Prop) : Sp := fun vs H Q E => ∃ (w : Wl) (as : List AV) (R : AV → Prop) (RX : Addr → List (Str × PyData) → Prop), w.h = H ∧ AvA K w vs as ∧ (as.all AV.plain = true ∧ C as R RX) ∧
  (∀ v a w', Le w w' → Av K w' v a → R a → Q v w'.h) ∧ outS K w RX E
section
variable {base : Heap} {K : PySem.W.Frag} {w : World} {P : Program} {mg : Str → Option Value}
abbrev cxX (P : Program) (w : World) (K : PySem.W.Frag) (mg : Str → Option Value) (base : Heap) (N : List Str) (qual : Str) (scope : Scope) (f : Addr) (cd : Value) (A : Around) (outer : List Env) (s : Shared) (H : Hp) (E : XK) : Cx := cxOf (L2.CX P w) P w K mg base N qual scope f cd A outer s H E
theorem okX {x qual : Str} {st : Stmt} {f : Addr} {fd : FuncData} {N ps : List Str} {k : Nat} {C : List AV → (AV → Prop) → (Addr → List (Str × PyData) → Prop) → Prop} (F : Fun K x qual st f fd) (S : FnScope N ps (defScope st)) (len : ∀ as R RX, C as R RX → as.length = ps.length)
    (hbody : ∀ (cdv : Value) (A : Around) (outer : List Env) (s : Shared) (H : Hp) (E : XK) (w0 : Wl) (as : List AV) (R : AV → Prop) (RX : Addr → List (Str × PyData) → Prop), Room k (A.deeper (envOfC qual (defScope st) s.heap.objs.size f cdv)) → C as R RX → outS K w0 RX E →
      KSs (cxX P w K mg base N qual (defScope st) f cdv A outer s H E) w0 (defBody st) (ss0 N.length as) { nx := fun _ => R (.dat .none), rt := R }) : FnOk P w K mg base (L2.CX P w) (k + 1) f fd ps (spX K C) := by
  refine F.okX S (fun vs H Q E ⟨w0, as, R, RX, e, hv, hc, q, o⟩ => by rw [hv.length]; exact len as R RX hc.2) fun cdv A outer s H vs Q E hr ⟨w0, as, R, RX, e, hv, hc, q, o⟩ => ?_
  refine ⟨_, hbody cdv A outer s H E w0 as R RX hr hc.2 o, w0, e, Sl.start hv hc.1, ⟨fun σ' ss' w' _ hs hk => q .non (.dat .none) w' hs.le .non hk, fun v a w' _ hl ha hr => q v a w' hl ha hr, fun _ _ _ _ _ h => h.elim, fun _ _ _ _ _ h => h.elim⟩⟩
end
section
variable {X : Cx} {w0 : Wl} {ss : SS}
/-- a def that may raise, called where errors leave as they are -/
theorem k_callX {C : List AV → (AV → Prop) → (Addr → List (Str × PyData) → Prop) → Prop} {k : Nat} {f : Addr} {fd : FuncData} {ps : List Str} {x : Str} {p pos : Pos} {e : Expr} {es : List Expr} {R : AV → Prop} {RX : Addr → List (Str × PyData) → Prop} {E : XK}
    (F : FnOk X.prog X.w X.K X.mg X.base (L2.CX X.prog X.w) k f fd ps (spX X.K C)) (hr : Room k X.A) (hg : Gl X x) (hm : X.mg x = some (.ref f)) (hk : PySem.W.keepIn X.K (.ref f) = true) (hb : Binds X.K fd ps []) (tk : Takes X fun cls d _ H => E cls d H) (out : outS X.K w0 RX E)
    (h : KA X w0 (e :: es) ss fun as => as.all AV.plain = true ∧ C as R RX) (hdb : (x == ("__debug__" : Str)) = false := by decide) (he : starEach (e :: es) X.env = (false, eval e X.env) :: starEach es X.env := by rfl) (hpl : (backTo pos (starEach es X.env)).any (·.1) = false := by rfl) :
    KE X w0 (.Call (.Name x p) (e :: es) [] pos) ss R :=
  PE.imp (pe_call (E := E) F hr hg hm hk hb .nil (fun pins σ H s u s' I c => passAt tk σ pins H s u s' I c) h hdb he hpl) fun σ H Q ⟨w, ew, hs, q⟩ => ⟨w, ew, hs, fun vs as w1 l1 hvs hk => by
    show spX X.K C (vs ++ []) w1.h Q E
    rw [List.append_nil]
    exact ⟨w1, as, R, RX, rfl, hvs, hk, fun v2 a2 w2 l2 h2 r2 => q v2 a2 w2 (l1.trans l2) h2 r2, out.mono (hs.le.trans l1)⟩⟩
/-- an own error's __init__, that keeps its values by these names, in this order -/
def spInit (C : Addr) (ns : List Str) : Sp := fun vs H Q _ => ∃ (a : Addr) (ws : List V), vs = .ref a :: ws ∧ ws.length = ns.length ∧ H a = some (exo a C none) ∧
  ∀ (dx : Addr) (H' : Hp), H dx = none → dx ≠ a → H' a = some (exo a C (some dx)) → H' dx = some (exd dx (ns.zip ws).reverse) → (∀ b, b ≠ a → b ≠ dx → H' b = H b) → Q .non H'
theorem ks_raise {x : Str} {C fI : Addr} {k : Nat} {fd : FuncData} {ps ns : List Str} {e : Expr} {es : List Expr} {p pos pos2 : Pos} {RX : Addr → List (Str × PyData) → Prop} {E : XK} {N : AN} (hc : X.calm = true) (tk : Takes X fun cls d _ H => E cls d H) (T : OexC X.K C)
    (iC : PySem.W.findIn X.K (.ref C) "__init__" = some (some (.ref fI))) (tI : PySem.W.typeIn X.K (.ref fI) = some (.type "function")) (F1 : FnOk X.prog X.w X.K X.mg X.base CX0 k fI fd ps (spInit C ns)) (hr : Room (k + 1) X.A) (hb : Binds X.K fd ps []) (hg : Gl X x) (hm : X.mg x = some (.ref C)) (out : outS X.K w0 RX E)
    (h : KA X w0 (e :: es) ss fun as => onDats as fun ds => ds.length = ns.length ∧ ds.length ≤ 1000 ∧ RX C (ns.zip ds).reverse)
    (hdb : (x == ("__debug__" : Str)) = false := by decide) (he : starEach (e :: es) X.env = (false, eval e X.env) :: starEach es X.env := by rfl) (hpl : (backTo pos (starEach es X.env)).any (·.1) = false := by rfl) :
    KS X w0 (.Raise (some (.Call (.Name x p) (e :: es) [] pos)) none pos2) ss N :=
  PS.imp (L2.ps_raise hc tk (pmk_oex T iC tI F1 hr hb .nil pass0 hg hm h hdb he hpl)) fun D σ H ⟨w, ew, hs, d⟩ => ⟨w, ew, hs, fun vs as w1 l1 hvs hk => by
    obtain ⟨ds, rfl, hl, hz, hx⟩ := hk.of
    have hd := AvA.dats hvs
    refine ⟨by rw [hd.length]; exact hz, fun a ha => ?_⟩
    rw [List.append_nil]
    refine ⟨a, vs, rfl, by rw [hd.length]; exact hl, upd_same, fun dx H' h1 h2 h3 h4 h5 => ?_⟩
    have h1' : w1.h dx = none := by
      rw [upd_ne h2] at h1
      exact h1
    refine ⟨rfl, dx, _, h3, h4, h1', ?_⟩
    have ex : Ex w1.h (upd (del H' a) dx (.xd (ns.zip vs).reverse)) := fun b o q => by
      have n1 : b ≠ a := ne_of_none q ha
      have n2 : b ≠ dx := ne_of_none q h1'
      rw [upd_ne n2, del_ne n1, h5 b n1 n2, upd_ne n1]
      exact q
    have le : Le w1 (w1.more _ ex) := Le.more ex
    exact out C dx _ _ (w1.more _ ex) ((hs.le.trans l1).trans le) (exFree (hs.le.trans l1).h h1') upd_same (w1.gfree h1') (FdA.zip ns hd).rev hx⟩
end
end Kp


namespace Kp
open PySem PySem.Spec PyProof.Rows L2
/-! ### a caught error, kept behind its suite -/
theorem exk_ok {P : Program} {w : World} {H : Hp} {h : Heap} {cls : Value} {d : Option Addr} {a : Addr} {oe : Obj} {vs : Array Value} (e : h.get? a = some oe) (z : Zc cls d oe) (hd : oe.data = .fields vs) : ObjOk P w H h a (ExK cls d a) :=
  ⟨⟨oe, vs, e, z, hd⟩, ⟨oe, e⟩, fun _ _ ⟨o, v, q, r⟩ k => ⟨o, v, k o q, r⟩⟩
section
variable {X : Cx} {s : Shared} {H : Hp} {σ : L2.St} {pins : List (Addr × Obj)}
/-- what is pinned is tracked from here -/
theorem track {a : Addr} {oe : Obj} {vs : Array Value} {cls : Value} {d : Option Addr} (I : Inv X ((a, oe) :: pins) σ H s) (young : X.s_0.heap.get? a = none) (np : ∀ p ∈ X.pn ++ pins, p.1 ≠ a) (hz : Zc cls d oe) (hd : oe.data = .fields vs) : Inv X pins σ (upd H a (ExK cls d a)) s := by
  obtain ⟨e, n, nL, nF, nc⟩ := I.pin (a, oe) (List.mem_append_right _ List.mem_cons_self)
  have e : s.heap.get? a = some oe := e
  have n : H a = none := n
  have ne : ∀ b o, X.s_0.heap.get? b = some o → b ≠ a := fun b o q z => by
    rw [z, young] at q
    cases q
  have nh : ∀ b o, H b = some o → b ≠ a := fun b o q z => by
    rw [z, n] at q
    cases q
  refine ⟨I.ok, I.os, I.bare, ⟨I.base.keep, I.base.slot, fun b o q h0 hx => ?_, I.base.there, fun b xs q => ?_, fun b o u q => ?_, fun b ps q => ?_⟩, I.loc, I.cell, ?_, fun x c hc => ?_, fun p hp => ?_, L2.HOk.laidN I.hok (fun _ _ q => q) n (exk_ok e hz hd), I.len⟩
  · rw [upd_ne (ne b o q)]
    exact I.base.free b o q h0 hx
  · have g := I.base.tups b xs q
    rw [upd_ne (nh b _ g)]
    exact g
  · have g := I.base.frzs b o u q
    rw [upd_ne (nh b _ g)]
    exact g
  · obtain ⟨more, g⟩ := I.base.tbls b ps q
    exact ⟨more, by rw [upd_ne (nh b _ g)]; exact g⟩
  · rw [upd_ne (Ne.symm nL)]
    exact I.free
  · have g : c ≠ a := fun z => by
      obtain ⟨v, o1, q1, q2⟩ := I.cell x c hc
      rw [z, e] at q1
      cases q1
      exact nc v q2
    rw [upd_ne g]
    exact I.freeC x c hc
  · have hp2 : p ∈ X.pn ++ ((a, oe) :: pins) := (List.mem_append.mp hp).elim (List.mem_append_left _) fun z => List.mem_append_right _ (List.mem_cons_of_mem _ z)
    obtain ⟨g1, g2, g3, g4, g5⟩ := I.pin p hp2
    exact ⟨g1, by rw [upd_ne (np p hp)]; exact g2, g3, g4, g5⟩
theorem unsuiteK {a : Addr} {q : Addr × Obj} (I : Inv (X.suite a (q :: (X.pn ++ pins))) [] σ H s) (ok : X.Ok) : Inv X (q :: pins) σ H s :=
  ⟨ok, I.os, I.bare, I.base, I.loc, I.cell, I.free, I.freeC, fun p hp => I.pin p (List.mem_append_left _ ((List.mem_append.mp hp).elim (fun z => List.mem_cons_of_mem _ (List.mem_append_left _ z)) fun z => (List.mem_cons.mp z).elim (fun z => by rw [z]; exact List.mem_cons_self) fun z => List.mem_cons_of_mem _ (List.mem_append_right _ z))), I.hok, I.len⟩
end
/-- what the clause wishes, where the error is kept -/
def wKeep (K : PySem.W.Frag) (c : Value) (i : Nat) (ts : Addr → Value → Option Addr → TS) (Wout : WX) (D : Ends) : WX := fun cls d σ H =>
  ∃ b, PySem.W.exmOne K cls c = some b ∧ (b = true → ∀ a, H a = none → ts a cls d { nx := fun σ' H' => D.nx (σ'.set i none) (upd H' a (ExK cls d a)), rt := fun v H' => D.rt v (upd H' a (ExK cls d a)), bk := fun σ' H' => D.bk (σ'.set i none) (upd H' a (ExK cls d a)), ct := fun σ' H' => D.ct (σ'.set i none) (upd H' a (ExK cls d a)) } (σ.set i (some (.ref a))) H) ∧
    (b = false → Wout cls d σ H)
section
variable {X : Cx} {x n : Str} {c : Value} {i : Nat} {body suite : List Stmt} {st0 : Stmt} {np pos pos' : Pos} {tb : WX → TS} {ts : Addr → Value → Option Addr → TS} {Wout : WX}
theorem ps_keep (hs : X.stack = X.env :: X.outer) (hf : X.env.frame = some X.env.locals) (hex : X.ex = []) (hN : X.N.Nodup) (hi : X.N[i]? = some n) (hln : X.env.kindOf n = some .local) (hc : Names X x c) (tks : Takes X Wout)
    (hbody : ∀ (W : WX) (pn : List (Addr × Obj)) (xe : Value → Shared → Prop), Takes (X.tr pn xe) W → PassesOwn (model X.prog X.w) X.A X.env xe → PSs (X.tr pn xe) body (tb W))
    (hsuite : ∀ (a : Addr) (oe : Obj) (cls : Value) (d : Option Addr) (pn : List (Addr × Obj)), Zc cls d oe → (∃ vs, oe.data = .fields vs) → PSs (X.suite a ((a, oe) :: pn)) (st0 :: suite) (ts a cls d)) :
    PS X (.Try body [.ExceptHandler (some (.Name x np)) (some n) (st0 :: suite) pos'] [] [] pos) (fun D σ H => tb (wKeep X.K c i ts Wout D) D σ H) := by
  refine ⟨fun pins s σ H D I hq0 => ?_⟩
  have okk := I.ok
  have hfs : X.A.frames = some (X.env :: X.outer) := by rw [okk.frames, hs]
  have hlo : Loc X.env.scope n := .inl hln
  refine wpAny_Try_except ?_
  refine wpAny_mono ((hbody (wKeep X.K c i ts Wout D) (X.pn ++ pins) (fun e s₁ => wpAny (model X.prog X.w) X.A (noteFrame e X.env) (fun _ s₂ => wpAny (model X.prog X.w) X.A (setFlight e none) (fun _ s₃ =>
    wpAny (model X.prog X.w) X.A (handleBy e X.env [.ExceptHandler (some (.Name x np)) (some n) (st0 :: suite) pos']) (SP X pins D) X.xe s₃) X.xe s₂) X.xe s₁) (fun u s' xx => ?_) PassesOwn.looking).run [] s σ H D (I.toTry _) hq0) (fun f s1 hsp => ?_) (fun e s1 he => he)
  · -- the catch
    obtain ⟨a, B, sI, pn2, σ', H', cls, d, rfl, J', nb, uu, air, na, os, ag, b, hbb, yes, nay⟩ := xx
    have J : Inv X pins σ' H' sI := J'.ofTry okk
    have air2 : Sky B (X.env :: X.outer) a (Zc cls d) X.env.locals s'.heap := by rw [← hs]; exact air
    show wpAny (model X.prog X.w) X.A (noteFrame (Value.ref a) X.env) _ _ _
    refine Sky.land Zc.steady hfs hf air2 fun ha3 fa ua => ?_
    have Ja : Inv X pins σ' H' { s' with heap := ha3 } := J.landed nb fa.1 (uu.trans ua) os ag
    obtain ⟨oa3, va3, ea3, za3, da3⟩ := fa.there
    have noFr : ∀ {h : Heap} {o : Obj} {vs : Array Value}, h.FunFrames B (X.env :: X.outer) → h.get? a = some o → o.data = .fields vs → a ∉ frs (X.env :: X.outer) := fun {h o vs} ff e dd hm => by
      obtain ⟨_, o', e', hnf⟩ := (ff.mem hm)
      rw [e] at e'; cases e'
      exact hnf _ dd
    have nof := noFr fa.2.2.1 ea3 da3
    have nL : a ≠ X.env.locals := fun z => nof (List.mem_filterMap.mpr ⟨X.env, List.mem_cons_self, by rw [hf, z]⟩)
    have nF : a ∉ X.fs := fun g => by
      obtain ⟨e, he, q⟩ := List.mem_filterMap.mp g
      exact nof (List.mem_filterMap.mpr ⟨e, List.mem_cons_of_mem _ he, q⟩)
    have Sa := Ja.suite ea3 da3 na nL nF
    refine wpAny_handleBy_cons (codeAny_handlers_test ?_) (fun q => by cases q)
    have lt : PySem.W.Looks (model X.prog X.w) ha3 (typeOf (.ref a)) cls := fun A Q E s k q => wpAny_typeOf_ref (k _ _ ea3) (by rw [za3.1]; exact q)
    have lm := PySem.W.exm_one (M := model X.prog X.w) (Ja.kIn) lt hbb
    have test : ∀ {Q : Value → Shared → Prop} {E : Value → Shared → Prop}, Q c { s' with heap := ha3 } → wpAny (model X.prog X.w) (X.A.mark (some (.ref a))) (eval (.Name x np) X.env) Q E { s' with heap := ha3 } := fun {Q E} q => by
      obtain ⟨hg, hdbg, hm | ⟨hm, hv, hnm⟩⟩ := hc
      · exact ld_glob (X := X.suite a ((a, oa3) :: (X.pn ++ pins))) Sa hg hm q hdbg
      · exact ld_blt (X := X.suite a ((a, oa3) :: (X.pn ++ pins))) Sa hg hm hv q hnm hdbg
    refine test (lm.here ?_)
    cases b with
    | true =>
      refine codeAny_handlers_suite_as (?_)
      refine HandSPX.lands_againZ fa fun hb4 fb ub => ?_
      have Jb : Inv X pins σ' H' { s' with heap := hb4 } := J.landed nb fb.1 ((uu.trans ua).trans ub) os ag
      obtain ⟨ob4, vb4, eb4, zb4, db4⟩ := fb.there
      have Sb := Jb.suite eb4 db4 na nL nF
      refine store_ok (X := X.suite a ((a, ob4) :: (X.pn ++ pins))) (v := .ref a) Sb hN hi hlo rfl (fun sc Sc => ?_) (.inr hln)
      refine wpAny_mono ((hsuite a ob4 cls d (X.pn ++ pins) zb4 ⟨_, db4⟩).run [] sc _ H' _ Sc (yes rfl a na)) (fun f sd hsp => ?_) (fun _ _ z => False.elim z)
      have hyoung : X.s_0.heap.get? a = none := by
        cases e : X.s_0.heap.get? a with
        | none => rfl
        | some o =>
          obtain ⟨o', e'⟩ := J.base.there a o e (by rw [hex]; exact fun z => nomatch z)
          have e2 := nb _ _ e' (by show a ∉ frs X.stack; rw [hs]; exact nof)
          rw [fa.2.1] at e2
          cases e2
      have np : ∀ p ∈ X.pn ++ pins, p.1 ≠ a := fun p hp z => by
        have e := (J.pin p hp).1
        rw [z] at e
        have e2 := nb _ _ e (by show a ∉ frs X.stack; rw [hs]; exact nof)
        rw [fa.2.1] at e2
        cases e2
      have end_ : ∀ {σd : L2.St} {Hd : Hp} {Q : Shared → Prop}, Inv (X.suite a ((a, ob4) :: (X.pn ++ pins))) [] σd Hd sd → (∀ s7, Inv X pins (σd.set i none) (upd Hd a (ExK cls d a)) s7 → Q s7) →
          wpAny (model X.prog X.w) X.A (do bindName X.env n .none; unbindBehindTheSuite X.env n pos') (fun _ s7 => Q s7) X.xe sd := fun {σd Hd Q} Sd hq => gone_ok (unsuiteK Sd okk) hN hi hln fun s7 J7 => hq s7 (track J7 hyoung np zb4 db4)
      cases f with
      | next =>
        obtain ⟨σd, Hd, Sd, qd⟩ := hsp
        exact end_ Sd fun s7 J7 => ⟨_, _, J7, qd⟩
      | brk =>
        obtain ⟨σd, Hd, Sd, qd⟩ := hsp
        exact end_ Sd fun s7 J7 => ⟨_, _, J7, qd⟩
      | cont =>
        obtain ⟨σd, Hd, Sd, qd⟩ := hsp
        exact end_ Sd fun s7 J7 => ⟨_, _, J7, qd⟩
      | ret u =>
        obtain ⟨vd, σd, Hd, Sd, rd, qd⟩ := hsp
        exact end_ Sd fun s7 J7 => ⟨_, _, _, J7, rd, qd⟩
    | false =>
      show wpAny _ X.A (handleBy (Value.ref a) X.env []) _ _ _
      refine wpAny_handleBy_nil ?_
      obtain ⟨c1, c2, c3, oe, vs, T, oT, ts', he, hz, hd, h1, hr⟩ := id fa
      unfold PySem.passOn
      refine wpAny_bind (wpAny_field he hd h1 (?_))
      rw [if_neg (show ¬ ((Value.ref T == Value.none) = true) from by simp)]
      have fin2 : wpAny (model X.prog X.w) X.A (setFlight (.ref a) X.env.frame) (fun _ s4 => wpAny (model X.prog X.w) X.A (throw (.ref a) : Sem Flow) (SP X pins D) X.xe s4) X.xe { s' with heap := ha3 } := by
        rw [hf]
        refine HandSPX.setFlight_upZ fa fun hb4 hh4 ub => wpAny_throw (tks _ _ ?_)
        exact ⟨a, B, sI, pins, σ', H', cls, d, rfl, J, nb, (uu.trans ua).trans ub, .inr (.inr (by rw [hs]; exact hh4)), na, os, ag, nay rfl⟩
      first
        | exact wpAny_bind (wpAny_pure (wpAny_bind fin2))
        | exact wpAny_bind fin2
  · cases f with
    | next =>
      obtain ⟨σ', H', J', q⟩ := hsp
      exact wpAny_execs_nil ⟨σ', H', J'.ofTry okk, q⟩
    | brk =>
      obtain ⟨σ', H', J', q⟩ := hsp
      exact ⟨σ', H', J'.ofTry okk, q⟩
    | cont =>
      obtain ⟨σ', H', J', q⟩ := hsp
      exact ⟨σ', H', J'.ofTry okk, q⟩
    | ret u =>
      obtain ⟨v, τ, H', J', r, q⟩ := hsp
      exact ⟨v, τ, H', J'.ofTry okk, r, q⟩
end
end Kp


/-! isinstance of a kept error, its own dict or none -/
namespace KpW
open PySem PySem.W PySem.Spec PySem.Calls PyProof.Rows
section
variable {K : Frag} {prog : Program} {w : World} {A : Around} {s : Shared} {E : Value → Shared → Prop} {x D : Addr} {ox : Obj}
theorem find_data {od : Option Obj} {C : Addr} {name : Str} {a g : Value} (hc : (clsIn K C).isSome = true) (hav : findIn K (.ref C) name = some (some a)) (hg : specialIn K a "__get__" = some (some g)) (ht : takesIn K a = some true) : findObj K C od name = some (.bind g a) := by
  obtain ⟨cd, hc⟩ := (Option.isSome_iff_exists.mp hc)
  unfold findObj
  rw [hc, Option.bind_some, hav, Option.bind_some]
  simp [hg, ht]
theorem class_exc {od : Option Obj} {Q : Option Value → Shared → Prop} (ga : findIn K (.ref D) "__getattribute__" = some (some (.builtin "BaseException.__getattribute__"))) (gt : findIn K (.ref D) "__getattr__" = some none) (hsb : subIn K (.ref D) (.type "BaseException") = some true)
    (hdt : hasDictIn K D = true) (hav : findIn K (.ref D) "__class__" = some (some (.builtin "object.__class__")))
    (hnn : specialIn K (.builtin "object.__class__") "__get__" = some (some (.builtin "getset_descriptor.__get__"))) (hta : takesIn K (.builtin "object.__class__") = some true) (hmr : mroIn K D (.type "object") = some true)
    (X : K.In s.heap) (I : InstAt s.heap x ox D od) (h : Q (some (.ref D)) { s with toks := s.toks + 1 }) : wpAny (model prog w) A (getAttr? (.ref x) "__class__") Q E s := by
  have hfo : findObj K D od "__class__" = some (.bind (.builtin "getset_descriptor.__get__") (.builtin "object.__class__")) := find_data (by obtain ⟨cd, hc, _⟩ := any_some hdt; rw [hc]; rfl) hav hnn hta
  obtain ⟨hp, g, d, tn, os⟩ := s
  have la := I.type (M := model prog w)
  have lb := looks_findIn (M := model prog w) X ga
  have lc := looks_findIn (M := model prog w) X gt
  have ld := looks_find (M := model prog w) X I hfo
  have sub : Looks (model prog w) hp (isInstance (.ref x) (.type "BaseException")) true := la.andThen (looks_subIn X hsb)
  have na0 : (false && onTheHeap (Value.builtin "BaseException.__getattribute__")) = false := rfl
  have nc2 : (Value.builtin "BaseException.__getattribute__" == Value.builtin "object.__getattribute__") = false := by decide +kernel
  have nb1 : (onTheHeap (Value.ref D) && Value.builtin "BaseException.__getattribute__" == Value.builtin "object.__getattribute__") = false := by rw [nc2]; rfl
  (unfold getAttr?)
  (unfold getAttrBy?)
  (unfold getAttrBy)
  refine wpAny_bind (wpAny_mkText (wpAny_bind (wpAny_attempt (wpAny_holding (wpAny_bind (la.at (wpAny_bind (lb.at ?_))))))))
  (show wpAny _ _ (if (onTheHeap (Value.ref D) && Value.builtin "BaseException.__getattribute__" == Value.builtin "object.__getattribute__") = true then _ else _) _ _ _)
  rw [nb1, if_neg Bool.false_ne_true]
  (unfold getAttrByItsOwn)
  (unfold hookBefore)
  refine wpAny_bind ?_
  (rw [if_pos (show onTheHeap (Value.ref D) = true from rfl)])
  refine lc.at ?_
  (refine wpAny_bind (wpAny_attempt (wpAny_holding ?_)))
  unfold callGetattribute
  rw [na0, if_neg Bool.false_ne_true]
  unfold boundAndCalled
  (rw [PySem.F.excAttr_ValueError.ga.bind (.ref x)])
  (refine wpAny_bind (wpAny_pure ?_))
  show wpAny _ _ (call (.builtin "BaseException.__getattribute__") [.ref x, .str "__class__" tn]) _ _ _
  (refine wpAny_call (codeAny_call_builtin PySem.F.excAttr_ValueError.ga.plain PySem.F.entry_bexc_ga ?_))
  refine @check_slot (model prog w) _ _ ⟨hp, g, d, tn + 1, os⟩ "BaseException.__getattribute__" "BaseException" "__getattribute__" (.ref x) [.str "__class__" tn] [] _ (by decide +kernel) (by decide +kernel) sub (PySem.F.args_bexc_ga (.ref x) (.str "__class__" tn)) ?_
  (unfold Builtin.«object.__getattribute__»)
  refine wpAny_bind (wpAny_of_eq (a := ((Value.ref x : Value), [Value.str "__class__" tn])) (by first | rfl | (simp only [slotArgs]; rfl)) ?_)
  refine wpAny_bind (wpAny_pure (wpAny_bind (la.at (wpAny_bind (ld.at ?_)))))
  (show wpAny _ _ (holding [Value.builtin "object.__class__"] (call (.builtin "getset_descriptor.__get__") [.builtin "object.__class__", .ref x, .ref D]) >>= ret) _ _ _)
  refine wpAny_bind (wpAny_holding (wpAny_call (class_get (s := ⟨hp, g, d, tn + 1, os⟩) (ox := ox) (od := od) X I hmr ?_)))
  refine wpAny_pure ?_
  (show wpAny _ _ (handedOut (.ref D)) _ _ _)
  (rw [handedOut_of (v := .ref D) rfl])
  first
    | (exact wpAny_pure (wpAny_pure h))
    | exact wpAny_pure h
    | (exact wpAny_pure (wpAny_bind (wpAny_pure (wpAny_pure h))))
theorem kit_exc {od : Option Obj} (ga : findIn K (.ref D) "__getattribute__" = some (some (.builtin "BaseException.__getattribute__"))) (gt : findIn K (.ref D) "__getattr__" = some none) (hsb : subIn K (.ref D) (.type "BaseException") = some true) (hdt : hasDictIn K D = true) (hav : findIn K (.ref D) "__class__" = some (some (.builtin "object.__class__")))
    (hnn : specialIn K (.builtin "object.__class__") "__get__" = some (some (.builtin "getset_descriptor.__get__"))) (hta : takesIn K (.builtin "object.__class__") = some true) (hmr : mroIn K D (.type "object") = some true) :
    KitX K (.ref x) (.ref D) (fun h => InstAt h x ox D od) where
  ty := fun _ _ _ I => I.type
  it := fun _ _ X _ => by
    obtain ⟨cd1, hcd1, _⟩ := any_some hdt
    unfold clsIn at hcd1
    split at hcd1
    · rename_i c1 d1 cd2 sl1 hob
      intro A' Q' E' s' k q
      unfold isType loadHead
      exact wpAny_bind (wpAny_loadPart (k _ _ (X _ _ hob)) (wpAny_pure q))
    · cases hcd1
  ne := fun hp2 tp d2 its m2 sl X htp => by
    obtain ⟨cd1, hcd1, _⟩ := any_some hdt
    (refine Bool.eq_false_iff.mpr fun q => ?_)
    have e : D = tp := (Value.ref.inj (beq_iff_eq.mp q))
    subst e
    unfold clsIn at hcd1
    split at hcd1
    · rename_i c1 d1 cd2 sl1 hob
      have z := (X _ _ hob).symm.trans htp
      cases z
    · cases hcd1
  ca := fun X I k => class_exc ga gt hsb hdt hav hnn hta hmr X I k
end
end KpW
namespace Kp
open PySem PySem.Spec PyProof.Rows L2
/-- isinstance(e, c) of a kept error e -/
def rIsK (K : PySem.W.Frag) (D : Addr) : List V → Hp → VK → Prop := fun xs H Q => ∃ (a : Addr) (d : Option Addr) (c : V) (cv : Value) (b : Bool), xs = [.ref a, c] ∧ H a = some (ExK (.ref D) d a) ∧ (d ≠ none → ∃ dx fs, d = some dx ∧ H dx = some (.xd fs)) ∧ (∀ u, RelV c u → u = cv) ∧ PySem.W.kitOne K (.ref D) cv = some b ∧ Q (.bl b) H
theorem call_isK {X : Cx} {D : Addr} (C : ExcC X.K D) : CallR X (.builtin "isinstance") (rIsK X.K D) := by
  intro pn s1 σ1 H xs us Q I r h
  obtain ⟨a, d, c, cv, b, rfl, ha, hd, hcv, e, q⟩ := h
  cases r with
  | cons rx rr =>
    cases rr with
    | cons rt rr =>
      cases rr
      cases rx
      have ec := hcv _ rt
      subst ec
      obtain ⟨oe, vs, hget, hz, hv⟩ := (show ObjOk X.prog X.w H s1.heap a (ExK (.ref D) d a) from I.hok a _ ha).1
      obtain ⟨od, J⟩ : ∃ od, PySem.W.InstAt s1.heap a oe D od := by
        obtain ⟨oc, odd, oda, osl⟩ := oe
        obtain ⟨h1, h2⟩ := hz
        dsimp only at h1 h2 hv
        subst h1 h2 hv
        cases odd with
        | none => exact ⟨none, hget, rfl, rfl, trivial⟩
        | some dx =>
          obtain ⟨dx2, fs, e2, hx⟩ := hd (fun z => nomatch z)
          cases e2
          obtain ⟨mA, ⟨ob, es, ep, e3, c3⟩, r3⟩ := (show ∃ mA, s1.heap.Ns1 dx mA ∧ ∀ f, RelO (fs.lookup f) (mA f) from I.hok dx _ hx)
          exact ⟨some ob, hget, rfl, rfl, e3⟩
      exact PySem.W.kia_one (KpW.kit_exc C.hg C.hk C.hs C.hd C.ha C.hn C.ht C.hm) I.kIn J e (fun z => nomatch z) fun tk => ⟨.bl b, H, I.kept (t' := tk) fun _ _ z => z, rfl, q⟩
end Kp


namespace Kp
open PySem PySem.Spec PyProof.Rows L2
/-! ### a kept error's field -/
def tXk (C : Addr) (f : Str) (te : TE) : TE := fun σ H Q => te σ H fun x H1 => ∃ (a dd : Addr) (fs : List (Str × V)) (v : V), x = .ref a ∧ H1 a = some (ExK (.ref C) (some dd) a) ∧ H1 dd = some (.xd fs) ∧ fs.lookup f = some v ∧ Q v H1
theorem pe_xk {X : Cx} {C : Addr} {e : Expr} {te : TE} {pos : Pos} {n : Str} (T : XfC X.K C) (hno : PySem.W.findIn X.K (.ref C) n = some none) (he : PE X e te) (hb : attributeBase e n X.env (eval e X.env) = eval e X.env := by rfl) : PE X (.Attribute e n pos) (tXk C n te) := by
  refine ⟨fun pn s σ H Q I hq => attr_of hb (thn (he.run pn s σ H _ I hq) fun u s1 hh => ?_)⟩
  obtain ⟨x, H1, I1, rx, a, dd, fs, v, rfl, ha, hdd, hl, q⟩ := hh
  cases (show u = Value.ref a from rx)
  obtain ⟨oe, vs, hget, hz, hv⟩ := (show ObjOk X.prog X.w H1 s1.heap a (ExK (.ref C) (some dd) a) from I1.hok a _ ha).1
  obtain ⟨mA, hns, hr⟩ := (show ∃ mA, s1.heap.Ns1 dd mA ∧ ∀ f, RelO (fs.lookup f) (mA f) from I1.hok dd _ hdd)
  obtain ⟨od, ho, hk⟩ := lookIn_ns hns
  obtain ⟨w, hw, rw'⟩ := RelO.some_of (v := v) (o := mA n) (by rw [← hl]; exact hr n)
  exact HandSPX.exc_get I1.kIn ⟨hget, hz.1, by unfold PySem.W.notCls; rw [hv] <;> rfl, by rw [hz.2]; exact ho⟩ T.ga T.gg T.exC (PySem.W.findObj_own T.hdC hno rfl (by rw [hk, hw])) (handed_of rw') ⟨v, H1, I1.tok _, rw', q⟩
end Kp


namespace Kp
open PySem PySem.Spec PyProof.Rows L2
/-! ### a kept error, as data sees it -/
theorem lookup_dd {K : PySem.W.Frag} {H : Hp} {f : Str} {d : PyData} : ∀ {fs : List (Str × V)} {ds : List (Str × PyData)}, FdA K H fs ds → ds.lookup f = some d → ∃ v, fs.lookup f = some v ∧ Dd K H v d
  | [], [], _, e => by cases e
  | [], _ :: _, h, _ => by cases h.1
  | _ :: _, [], h, _ => by cases h.1
  | (k, v) :: fs, (k2, d2) :: ds, h, e => by
    have h1 := h.1
    have h2 := h.2
    rw [List.map_cons, List.map_cons] at h1 h2
    obtain ⟨e1, e2⟩ := List.cons.inj h1
    cases h2 with
    | cons a t =>
      have e1 : k = k2 := e1
      subst e1
      rw [List.lookup_cons] at e ⊢
      cases q : (f == k) with
      | true =>
        rw [q] at e
        cases e
        exact ⟨v, rfl, a⟩
      | false =>
        rw [q] at e
        exact lookup_dd ⟨e2, t⟩ e
theorem XdO.some_of {fs : List (Str × V)} {d : Option Addr} (w : Wl) (h : XdO w.g fs d) (z : d ≠ none) : ∃ dx fs, d = some dx ∧ w.h dx = some (.xd fs) := by
  cases d with
  | some d => exact ⟨d, fs, rfl, w.sub _ _ h⟩
  | none => exact absurd rfl z
section
variable {X : Cx} {w0 : Wl} {ss : SS} {R : AV → Prop}
/-- e.f -/
theorem k_errf {C : Addr} {e : Expr} {pos : Pos} {n : Str} (T : XfC X.K C) (hno : PySem.W.findIn X.K (.ref C) n = some none) (h : KE X w0 e ss fun a => ∃ ds d, a = .err C ds ∧ ds.lookup n = some d ∧ R (.dat d)) (hb : attributeBase e n X.env (eval e X.env) = eval e X.env := by rfl) : KE X w0 (.Attribute e n pos) ss R :=
  PE.imp (pe_xk T hno h hb) fun σ H Q ⟨w, ew, hs, q⟩ => ⟨w, ew, hs, fun v a w1 l1 hv hk => by
    obtain ⟨ds, d, rfl, hl, hr⟩ := hk
    obtain ⟨p, dd, fs, rfl, h1, h2, h3⟩ := hv
    obtain ⟨u, hu, hd⟩ := lookup_dd h3 hl
    obtain ⟨dd, rfl⟩ : ∃ d, dd = some d := by
      cases dd with
      | some d => exact ⟨d, rfl⟩
      | none =>
        have h2 : fs = [] := h2
        subst h2
        cases hu
    exact ⟨p, dd, fs, u, rfl, w1.sub _ _ h1, w1.sub _ _ h2, hu, q u (.dat d) w1 l1 hd hr⟩⟩
/-- isinstance(e, X), X an own class -/
theorem k_isE {D C : Addr} {b : Bool} {e : Expr} {x : Str} {p p2 pos : Pos} (T : ExcC X.K D) (hg : Gl X "isinstance") (hm : X.mg "isinstance" = none) (hg2 : Gl X x) (hm2 : X.mg x = some (.ref C)) (hk : PySem.W.kitOne X.K (.ref D) (.ref C) = some b)
    (h : KE X w0 e ss fun a => ∃ ds, a = .err D ds ∧ R (.dat (.bool b))) (hdb : (x == ("__debug__" : Str)) = false := by decide)
    (he : starEach [e, .Name x p2] X.env = (false, eval e X.env) :: starEach [.Name x p2] X.env := by rfl) (hpl : (backTo pos (starEach [.Name x p2] X.env)).any (·.1) = false := by rfl)
    (he2 : starEach [.Name x p2] X.env = (false, eval (.Name x p2) X.env) :: starEach [] X.env := by rfl) : KE X w0 (.Call (.Name "isinstance" p) [e, .Name x p2] [] pos) ss R :=
  PE.imp (pe_callB (call_isK T) hg hm (by decide +kernel) (pa_cons h (pa_cons (pe_glob hg2 hm2 (v := .ref C) rfl hdb) pa_nil he2) he) (by decide) (by decide) he hpl) fun σ H Q ⟨w, ew, hs, q⟩ => ⟨w, ew, hs, fun v a w1 l1 hv hkk => by
    obtain ⟨ds, rfl, hr⟩ := hkk
    obtain ⟨q0, dd, fs, rfl, h1, h2, h3⟩ := hv
    exact ⟨q0, dd, .ref C, .ref C, b, rfl, w1.sub _ _ h1, fun z => h2.some_of w1 z, fun u r => by cases r; rfl, hk, q (.bl b) (.dat (.bool b)) w1 l1 (.bl b) hr⟩⟩
/-- isinstance(e, T), T a built-in class -/
theorem k_isT {D : Addr} {T0 : String} {b : Bool} {e : Expr} {x : Str} {p p2 pos : Pos} (T : ExcC X.K D) (hg : Gl X "isinstance") (hm : X.mg "isinstance" = none) (hg2 : Gl X x) (hm2 : X.mg x = none) (hv2 : bootBuiltins x = some (.type T0)) (hk : PySem.W.kitOne X.K (.ref D) (.type T0) = some b)
    (h : KE X w0 e ss fun a => ∃ ds, a = .err D ds ∧ R (.dat (.bool b))) (hn : x ≠ "__name__" := by decide) (hdb : (x == ("__debug__" : Str)) = false := by decide)
    (he : starEach [e, .Name x p2] X.env = (false, eval e X.env) :: starEach [.Name x p2] X.env := by rfl) (hpl : (backTo pos (starEach [.Name x p2] X.env)).any (·.1) = false := by rfl)
    (he2 : starEach [.Name x p2] X.env = (false, eval (.Name x p2) X.env) :: starEach [] X.env := by rfl) : KE X w0 (.Call (.Name "isinstance" p) [e, .Name x p2] [] pos) ss R :=
  PE.imp (pe_callB (call_isK T) hg hm (by decide +kernel) (pa_cons h (pa_cons (pe_bltn hg2 hm2 hv2 (v := .ty T0) rfl hn hdb) pa_nil he2) he) (by decide) (by decide) he hpl) fun σ H Q ⟨w, ew, hs, q⟩ => ⟨w, ew, hs, fun v a w1 l1 hv hkk => by
    obtain ⟨ds, rfl, hr⟩ := hkk
    obtain ⟨q0, dd, fs, rfl, h1, h2, h3⟩ := hv
    exact ⟨q0, dd, .ty T0, .type T0, b, rfl, w1.sub _ _ h1, fun z => h2.some_of w1 z, fun u r => by cases r; rfl, hk, q (.bl b) (.dat (.bool b)) w1 l1 (.bl b) hr⟩⟩
end
end Kp


namespace Kp
open PySem PySem.Spec PyProof.Rows L2
/-! ### try: .. except X as n: y = n -/
def noBuf (ss : SS) : Prop := ∀ (i : Nat) (ds : List PyData), ss[i]? ≠ some (some (AV.buf ds))
section
variable {K : PySem.W.Frag} {w0 w w1 w2 : Wl} {σ : L2.St} {ss : SS}
theorem Sl.re (h : Sl K w0 w σ ss) (nb : noBuf ss) : Sl K w w σ ss := ⟨Le.refl w, h.len, h.at_, fun i j ds es v _ e => absurd e (nb i ds), fun i ds p e => absurd e (nb i ds)⟩
theorem Sl.back (l : Le w0 w1) (h : Sl K w1 w σ ss) : Sl K w0 w σ ss := ⟨l.trans h.le, h.len, h.at_, h.ap, fun i ds p e1 e2 => exFree l.h (h.fr i ds p e1 e2)⟩
theorem Av.monoG {v : V} {a : AV} (e : Ex w1.g w2.g) (hp : a.plain = true) (h : Av K w1 v a) : Av K w2 v a := by
  cases a with
  | dat d => exact Dd.mono e h
  | pool =>
    obtain ⟨p, rfl, hp⟩ := h
    exact ⟨p, rfl, e _ _ hp⟩
  | buf ds => cases hp
  | scr ns =>
    obtain ⟨a, rfl, h1⟩ := h
    exact ⟨a, rfl, ex_l e h1⟩
  | err C ds =>
    obtain ⟨a, d, fs, rfl, h1, h2, h3⟩ := h
    exact ⟨a, d, fs, rfl, e _ _ h1, h2.mono e, h3.mono e⟩
end
/-- what is wanted of an error within a try -/
def outW (K : PySem.W.Frag) (w0 : Wl) (ss : SS) (RX : Addr → List (Str × PyData) → Prop) (W : WX) : Prop :=
  ∀ (σ : L2.St) (C d : Addr) (fs : List (Str × V)) (ds : List (Str × PyData)) (w' : Wl), Sl K w0 w' σ ss → w0.h d = none → w'.h d = some (.xd fs) → w'.g d = none → FdA K w'.g fs ds → RX C ds → W (.ref C) (some d) σ w'.h
section
variable {X : Cx} {w0 : Wl} {ss : SS}
/-- a def that may raise, called within a try -/
theorem k_callW {C : List AV → (AV → Prop) → (Addr → List (Str × PyData) → Prop) → Prop} {k : Nat} {f : Addr} {fd : FuncData} {ps : List Str} {x : Str} {p pos : Pos} {e : Expr} {es : List Expr} {R : AV → Prop} {RX : Addr → List (Str × PyData) → Prop} {W : WX}
    (F : FnOk X.prog X.w X.K X.mg X.base (L2.CX X.prog X.w) k f fd ps (spX X.K C)) (hr : Room k X.A) (hg : Gl X x) (hm : X.mg x = some (.ref f)) (hk : PySem.W.keepIn X.K (.ref f) = true) (hb : Binds X.K fd ps []) (tk : Takes X W) (out : outW X.K w0 ss RX W)
    (h : KA X w0 (e :: es) ss fun as => as.all AV.plain = true ∧ C as R RX) (hdb : (x == ("__debug__" : Str)) = false := by decide) (he : starEach (e :: es) X.env = (false, eval e X.env) :: starEach es X.env := by rfl) (hpl : (backTo pos (starEach es X.env)).any (·.1) = false := by rfl) :
    KE X w0 (.Call (.Name x p) (e :: es) [] pos) ss R :=
  PE.imp (pe_callS (E := WE W) F hr hg hm hk hb (fun σ => passAt tk σ) h hdb he hpl) fun σ H Q ⟨w, ew, hs, q⟩ => ⟨w, ew, hs, fun vs as w1 l1 hvs hk => by
    show spX X.K C vs w1.h Q (WE W σ)
    exact ⟨w1, as, R, RX, rfl, hvs, hk, fun v2 a2 w2 l2 h2 r2 => q v2 a2 w2 (l1.trans l2) h2 r2, fun C d fs ds w' l2 h1 h2 h3 h4 r => out σ C d fs ds w' (hs.mono (l1.trans l2)) (exFree (hs.le.trans l1).h h1) h2 h3 h4 r⟩⟩
theorem ks_tryK {x n y : Str} {c : Addr} {i j : Nat} {body : List Stmt} {N : AN} {RX : Addr → List (Str × PyData) → Prop} {np p1 p2 p3 pos pos' : Pos} (hs : X.stack = X.env :: X.outer) (hf : X.env.frame = some X.env.locals) (hex : X.ex = []) (hN : X.N.Nodup) (hi : X.N[i]? = some n) (hln : X.env.kindOf n = some .local)
    (hc : Names X x (.ref c)) (hj : X.N[j]? = some y) (hij : i ≠ j) (hl : i < ss.length) (nb : noBuf ss) (hvn : Vis X.env.scope n) (hly : Loc X.env.scope y) (hdn : (n == ("__debug__" : Str)) = false) (hcn : (n == ("__classdict__" : Str)) = false)
    (hb : ∀ (w1 : Wl) (W : WX) (pn : List (Addr × Obj)) (xe : Value → Shared → Prop), Takes (X.tr pn xe) W → PassesOwn (model X.prog X.w) X.A X.env xe → outW X.K w1 ss RX W → KSs (X.tr pn xe) w1 body ss N)
    (hx : ∀ C ds, RX C ds → PySem.W.exmOne X.K (.ref C) (.ref c) = some true ∧ N.nx ((ss.set i none).set j (some (.err C ds))))
    (hsw : ∀ (a : Addr) (pn : List (Addr × Obj)), swapsWith (.Name n p2) (some (.Name y p1)) p3.line (X.suite a pn).env = pure false := by intro _ _; rfl) (hfy : X.fn y = true ∨ X.env.scope.names.lookup y = some .local := by first | exact .inl rfl | exact .inr rfl) :
    KS X w0 (.Try body [.ExceptHandler (some (.Name x np)) (some n) [.Assign [.Name y p1] (.Name n p2) p3] pos'] [] [] pos) ss N := by
  refine PS.imp (ps_keep (tb := fun W D σ H => (∃ w1 : Wl, outW X.K w1 ss RX W ∧ tsOf X.K w1 ss N D σ H)) (ts := fun a cls d => tAsg (tVar i) (gName j)) (Wout := fun _ _ _ _ => False) hs hf hex hN hi hln hc takes0
    (fun W pn xe tk po => ⟨fun pins s σ H D I ⟨w1, o, h⟩ => (hb w1 W pn xe tk po o).run pins s σ H D I h⟩)
    (fun a oe cls d pn hz hd => pss_one (ps_set (i := j) hN hj hly (pe_var hi hvn hdn hcn) (hsw a _) hfy))) fun D σ H ⟨w, ew, hsl, d⟩ => ?_
  refine ⟨w, fun σ1 C dd fs ds w' hs1 h0 h1 h2 h3 r => ?_, w, ew, hsl.re nb, ⟨fun σ' ss' w' e h k => d.nx σ' ss' w' e (h.back hsl.le) k, fun v a w' e l h k => d.rt v a w' e (hsl.le.trans l) h k, fun σ' ss' w' e h k => d.bk σ' ss' w' e (h.back hsl.le) k, fun σ' ss' w' e h k => d.ct σ' ss' w' e (h.back hsl.le) k⟩⟩
  obtain ⟨hx1, hx2⟩ := hx C ds r
  refine ⟨true, hx1, fun _ a ha => ?_, fun q => nomatch q⟩
  have hil : i < σ1.length := by rw [hs1.len]; exact hl
  refine ⟨.ref a, by rw [List.getElem?_set_self hil], ?_⟩
  have hga : w'.g a = none := w'.gfree ha
  have nad : a ≠ dd := fun z => by
    rw [z, h1] at ha
    cases ha
  have ex1 : Ex w'.g (upd (upd w'.g dd (.xd fs)) a (ExK (.ref C) (some dd) a)) := (Ex.new h2).trans (Ex.new (by rw [upd_ne nad]; exact hga))
  have sub : Ex (upd (upd w'.g dd (.xd fs)) a (ExK (.ref C) (some dd) a)) (upd w'.h a (ExK (.ref C) (some dd) a)) := fun b o e => by
    by_cases z : b = a
    · subst z
      rw [upd_same] at e ⊢
      exact e
    · rw [upd_ne z] at e ⊢
      by_cases z2 : b = dd
      · subst z2
        rw [upd_same] at e
        rw [← e]
        exact h1
      · rw [upd_ne z2] at e
        exact w'.sub b o e
  have le : Le w ⟨_, _, sub⟩ := ⟨hs1.le.g.trans ex1, hs1.le.h.trans (Ex.new ha), fun b b1 b2 => by
    have z : b ≠ a := fun z => b1 (exFree hs1.le.h (by rw [z]; exact ha))
    have z2 : b ≠ dd := fun z => b1 (by rw [z]; exact h0)
    show upd (upd w'.g dd (.xd fs)) a _ b = none
    rw [upd_ne z, upd_ne z2]
    exact hs1.le.hid b b1 b2⟩
  have S0 : Sl X.K w ⟨_, _, sub⟩ σ1 ss := ⟨le, hs1.len, fun k av e => by
    obtain ⟨v, e1, q⟩ := hs1.at_ k av e
    refine ⟨v, e1, Av.monoG ex1 ?_ q⟩
    cases av with
    | buf es => exact absurd e (nb k es)
    | _ => rfl, fun i j ds es v _ e => absurd e (nb i ds), fun i ds p e => absurd e (nb i ds)⟩
  have S1 : Sl X.K w ⟨_, _, sub⟩ (σ1.set i none) (ss.set i none) := S0.wipe [i]
  have S2 := S1.set (v := .ref a) (a := .err C ds) j rfl ⟨a, some dd, fs, rfl, upd_same, (upd_ne (Ne.symm nad)).trans upd_same, h3.mono ex1⟩
  have eσ : ((σ1.set i (some (.ref a))).set j (some (.ref a))).set i none = (σ1.set i none).set j (some (.ref a)) := by
    rw [List.set_comm _ _ hij, List.set_set, List.set_comm _ _ (Ne.symm hij)]
  show D.nx (((σ1.set i (some (.ref a))).set j (some (.ref a))).set i none) (upd w'.h a (ExK (.ref C) (some dd) a))
  rw [eσ]
  exact d.nx _ _ ⟨_, _, sub⟩ le.g (S2.back hsl.le) hx2
end
end Kp


namespace Kp
open PySem PySem.Spec PyProof.Rows L2
/-! ### own errors over any built-in class: their fields stored, themselves made and held as values -/
structure OxG (K : PySem.W.Frag) (C : Addr) (B newId initId : String) (bm : List Value) : Prop where
  F : ExcBaseFacts B newId initId bm
  S : StoreFacts B bm "object.__setattr__" "object"
  i : PySem.W.excInitIn K C bm newId = true
  o : PySem.W.excOver K C bm = true
  d : PySem.W.hasDictIn K C = true
  sa : PySem.W.findIn K (.ref C) "__setattr__" = some (some (.builtin "object.__setattr__"))
  k : PySem.W.keepIn K (.ref C) = true
section
variable {prog : Program} {w : World} {A : Around} {R : Result → Shared → Prop} {hp : Heap} {g : Array GenState} {d : Drawn} {t : Nat} {os : OsState} {K : PySem.W.Frag} {C x : Addr} {B newId initId : String} {bm : List Value} {name : Str} {tk : Tok} {v : Value} {t1 : Addr}
theorem osg_new (G : OxG K C B newId initId bm) (X : K.In hp) (hx : hp.get? x = some (PySem.W.excObj C t1 none .none)) (ha : PySem.W.findIn K (.ref C) name = some none)
    (hq : ∀ h' tk' dx, (∀ b o, b ≠ x → hp.get? b = some o → h'.get? b = some o) → hp.objs.size ≤ dx → dx ≠ x → h'.get? x = some (PySem.W.excObj C t1 (some dx) .none) → h'.Ns1 dx (fun y => if y = name then some v else none) → R (.ok (.ret .none)) ⟨h', g, d, tk', os⟩) :
    codeAny (model prog w) A (.call (.builtin "object.__setattr__") ⟨[.ref x, .str name tk, v], []⟩) R ⟨hp, g, d, t, os⟩ := by
  have lt : x ≠ hp.objs.size := Nat.ne_of_lt (Heap.lt_size hx)
  have hx1 : (hp.push (PySem.W.dictOf [] 0)).get? x = some (PySem.W.excObj C t1 none .none) := Heap.get?_push_of_some _ hx
  obtain ⟨cd, hc, hd⟩ := PySem.W.any_some G.d
  refine PySem.W.osa_openX (od := none) G.S X ⟨hx, rfl, rfl, trivial⟩ G.o (by unfold PySem.W.takerIn; rw [ha]; rfl) fun b => wpAny_bind (wpAny_pure (wpAny_bind (PySem.W.instanceDict_exc hx (PySem.W.looks_clsIn X hc) hd ?_)))
  refine HandSPX.store_in_new (dx := hp.objs.size) ?_ fun h' tk' n1 sb => hq h' tk' hp.objs.size (fun b o hb ho => ?_) (Nat.le_refl _) lt.symm ?_ n1
  · exact ⟨_, #[], _, (Heap.get?_update_ne _ _ _ _ lt.symm).trans (Heap.get?_push_at rfl rfl), rfl, fun e he => absurd he (by simp), fun _ => rfl⟩
  · rw [sb.2 b (Nat.ne_of_lt (Heap.lt_size ho)), Heap.get?_update_ne _ _ _ _ hb]
    exact Heap.get?_push_of_some _ ho
  · rw [sb.2 x lt]
    exact Heap.get?_update_self _ hx1 rfl
theorem osg_old {dx : Addr} {m0 : Str → Option Value} {nl : List Str} (G : OxG K C B newId initId bm) (X : K.In hp) (hx : hp.get? x = some (PySem.W.excObj C t1 (some dx) .none)) (hns : hp.Ns1 dx m0) (hw : Within m0 nl) (hz : nl.length ≤ 1000) (ha : PySem.W.findIn K (.ref C) name = some none)
    (hq : ∀ h' tk', (∀ b o, b ≠ dx → hp.get? b = some o → h'.get? b = some o) → h'.Ns1 dx (fun y => if y = name then some v else m0 y) → R (.ok (.ret .none)) ⟨h', g, d, tk', os⟩) :
    codeAny (model prog w) A (.call (.builtin "object.__setattr__") ⟨[.ref x, .str name tk, v], []⟩) R ⟨hp, g, d, t, os⟩ := by
  obtain ⟨od, _, _, ho, _, _⟩ := hns.count hw
  obtain ⟨cd, hc, hd⟩ := PySem.W.any_some G.d
  refine PySem.W.osa_openX (od := some od) G.S X ⟨hx, rfl, rfl, ho⟩ G.o (by unfold PySem.W.takerIn; rw [ha]; rfl) fun b => wpAny_bind (wpAny_pure (wpAny_bind (wpAny_bind (wpAny_loadPart hx (wpAny_bind ((PySem.W.looks_clsIn X hc).here ?_))))))
  rw [hd]
  refine wpAny_pure (a := some dx) ?_
  exact OEX.store_in_old hns hw hz fun h' tk' n1 sb => hq h' tk' (fun b o hb ho => (sb.2 b hb).trans ho) n1
end
section
variable {X : Cx} {pins : List (Addr × Obj)} {σ : L2.St} {H : Hp} {s : Shared} {a C dx : Addr} {f : Str} {y : V} {u : Value} {fs : List (Str × V)} {Q : Unit → Shared → Prop} {E : Value → Shared → Prop} {A : Around} {B newId initId : String} {bm : List Value}
theorem ostG_new (T : OxG X.K C B newId initId bm) (I : Inv X pins σ H s) (e : H a = some (exo a C none)) (hno : PySem.W.findIn X.K (.ref C) f = some none) (ry : RelV y u)
    (h : ∀ dx s', H dx = none → dx ≠ a → Inv X pins σ (upd (upd H dx (exd dx [(f, y)])) a (exo a C (some dx))) s' → Q () s') : wpAny (model X.prog X.w) A (setAttr (.ref a) f u) Q E s := by
  obtain ⟨t1, ho⟩ := exo_at I.hok e
  obtain ⟨hp, g, d, t, os⟩ := s
  refine PySem.W.set_plain I.kIn (od := none) ⟨ho, rfl, rfl, trivial⟩ T.sa (osg_new T I.kIn ho hno fun h' tk' dx k dn dne hx hn => ?_)
  have hnd : H dx = none := I.hok.fresh dn
  have nd : ∀ {b : Addr} {o : Obj}, hp.get? b = some o → b ≠ dx := fun {b o} q => Nat.ne_of_lt (Nat.lt_of_lt_of_le (Heap.lt_size q) dn)
  have na : ∀ {b : Addr}, H b = none → b ≠ a := fun {b} n z => by
    rw [z, e] at n
    cases n
  have ne : ∀ {b : Addr} {o : HO}, b ≠ a → H b = some o → upd (upd H dx (exd dx [(f, y)])) a (exo a C (some dx)) b = some o := fun {b o} b1 q => by
    rw [upd_ne b1, upd_ne (ne_of_none q hnd)]
    exact q
  have U : Un X.fs [] H (upd (upd H dx (exd dx [(f, y)])) a (exo a C (some dx))) hp h' := {
    keep := fun b o q n _ _ => k b o (na n) q
    slot := fun b o q n _ _ => ⟨o.slots, k b o (na n) q⟩
    free := fun b o q n _ => (upd_ne (na n)).trans ((upd_ne (nd q)).trans n)
    there := fun b o q _ => by
      by_cases hb : b = a
      · exact ⟨_, hb ▸ hx⟩
      · exact ⟨o, k b o hb q⟩
    tups := fun b xs q => ne (at_ne e q exo_tup) q
    frzs := fun b o v q => ne (at_ne e q exo_frz) q
    tbls := fun b ps q => ⟨#[], by rw [ne (at_ne e q exo_tbl) q]; simp⟩ }
  refine h dx _ hnd dne (I.un (t' := tk') U fun b o q => ?_)
  by_cases hb : b = a
  · subst hb
    rw [upd_same] at q
    cases q
    exact exo_ok hx
  · rw [upd_ne hb] at q
    by_cases hd : b = dx
    · subst hd
      rw [upd_same] at q
      cases q
      exact exd_ok hn (relO_put (fs := []) ry fun g => True.intro)
    · rw [upd_ne hd] at q
      refine (I.hok b o q).stay (fun c v hc z => k c v ?_ z) (fun c hc => ne (at_ne e hc exo_own) hc) fun c xs hc => ne (at_ne e hc exo_tup) hc
      rcases hc with hc | hc
      · rw [hc]
        exact hb
      · exact at_ne e hc exo_own
theorem ostG_old (T : OxG X.K C B newId initId bm) (I : Inv X pins σ H s) (e : H a = some (exo a C (some dx))) (ed : H dx = some (exd dx fs)) (hl : fs.length ≤ 900) (hno : PySem.W.findIn X.K (.ref C) f = some none) (ry : RelV y u)
    (h : ∀ s', Inv X pins σ (upd H dx (exd dx ((f, y) :: fs))) s' → Q () s') : wpAny (model X.prog X.w) A (setAttr (.ref a) f u) Q E s := by
  obtain ⟨t1, ho⟩ := exo_at I.hok e
  obtain ⟨mA, hns, rel⟩ := exd_at I.hok ed
  have hw := within_of rel
  obtain ⟨hp, g, d, t, os⟩ := s
  obtain ⟨oD, _, _, hoD, _, _⟩ := hns.count hw
  refine PySem.W.set_plain I.kIn (od := some oD) ⟨ho, rfl, rfl, hoD⟩ T.sa (osg_old T I.kIn ho hns hw (by rw [List.length_map]; omega) hno fun h' tk' k hn => ?_)
  have hd : ∃ o, h'.get? dx = some o := let ⟨o, _, _, e', _⟩ := hn; ⟨o, e'⟩
  exact h _ (I.write (t' := tk') (x := dx) (e := dx) (o := exd dx ((f, y) :: fs)) (by rw [ed]; exact True.intro) (.inl rfl) k hd (exd_ok hn (relO_put ry rel)))
end
/-- self.f = e, in an __init__ -/
def tOsG (K : PySem.W.Frag) (f : Str) (to te : TE) : TS := fun D σ H => te σ H fun y H1 => to σ H1 fun x H2 => ∃ (a C : Addr) (B n1 n2 : String) (bm : List Value), x = .ref a ∧ OxG K C B n1 n2 bm ∧ PySem.W.findIn K (.ref C) f = some none ∧
  ((H2 a = some (exo a C none) ∧ ∀ dx, H2 dx = none → dx ≠ a → D.nx σ (upd (upd H2 dx (exd dx [(f, y)])) a (exo a C (some dx)))) ∨ ∃ (dx : Addr) (fs : List (Str × V)), H2 a = some (exo a C (some dx)) ∧ H2 dx = some (exd dx fs) ∧ fs.length ≤ 900 ∧ D.nx σ (upd H2 dx (exd dx ((f, y) :: fs))))
/-- a new error as a value, its __init__ keeping sp -/
def qMkV (C : Addr) (sp : Sp) (vs : List V) (H1 : Hp) (Q : VK) : Prop := vs.length ≤ 1000 ∧ ∀ a, H1 a = none → sp (.ref a :: vs) (upd H1 a (exo a C none))
  (fun v H2 => v = .non ∧ ((H2 a = some (exo a C none) ∧ Q (.ref a) (upd H2 a (ExK (.ref C) none a))) ∨ ∃ (d : Addr) (fs : List (Str × V)), H2 a = some (exo a C (some d)) ∧ H2 d = some (exd d fs) ∧ d ≠ a ∧ Q (.ref a) (upd (upd H2 a (ExK (.ref C) (some d) a)) d (.xd fs)))) (fun _ _ _ => False)
section
variable {X : Cx} {o e : Expr} {es : List Expr} {to te : TE} {ta : TA} {f : Str} {p p' p1 p2 pos : Pos}
theorem ps_osG (ho : PE X o to) (he : PE X e te) (hs : swapsWith e (some (.Attribute o f p')) pos.line X.env = pure false := by rfl) : PS X (.Assign [.Attribute o f p'] e pos) (tOsG X.K f to te) := by
  refine ⟨fun pins s σ H D I h => plainObj_wpAny_Assign_Attribute (thn (he.run pins s σ H _ I h) fun v s1 ⟨y, H1, I1, r1, q1⟩ => thn (ho.run pins s1 σ H1 _ I1 q1) fun u s2 ⟨x, H2, I2, r2, a, C, B, n1, n2, bm, ex, T, hno, q⟩ => ?_) hs⟩
  subst ex
  obtain rfl : u = Value.ref a := r2
  rcases q with ⟨ea, q⟩ | ⟨dx, fs, ea, ed, hl, q⟩
  · exact ostG_new T I2 ea hno r1 fun dx s' n ne J => ⟨σ, _, J, q dx n ne⟩
  · exact ostG_old T I2 ea ed hl hno r1 fun s' J => ⟨σ, _, J, q⟩
/-- the call of the class -/
theorem mkG_call {C fI : Addr} {k : Nat} {fd : FuncData} {ps : List Str} {sp : Sp} {B newId initId : String} {bm : List Value} {pins : List (Addr × Obj)} {σ : L2.St} {H1 : Hp} {s1 : Shared} {vs : List V} {us : List Value} {Q : VK}
    (T : OxG X.K C B newId initId bm) (iC : PySem.W.findIn X.K (.ref C) "__init__" = some (some (.ref fI))) (tI : PySem.W.typeIn X.K (.ref fI) = some (.type "function")) (F1 : FnOk X.prog X.w X.K X.mg X.base CX0 k fI fd ps sp) (hr : Room (k + 1) X.A) (hb : Binds X.K fd ps [])
    (I1 : Inv X pins σ H1 s1) (r1 : Vals vs us) (hq : qMkV C sp vs H1 Q) : wpAny (model X.prog X.w) X.A (call (.ref C) us) (fun u s' => ∃ v H', Inv X pins σ H' s' ∧ RelV v u ∧ Q v H') X.xe s1 := by
  obtain ⟨hz, q1⟩ := hq
  obtain ⟨hp, g, dr, tk, os⟩ := s1
  obtain ⟨nm, N, q, bs, bm2, hdct, sn, sub, ab, col, dd, k0, k1, k2, k3, k5, hC, hT⟩ := PySem.W.excInit_of I1.kIn T.i
  have hsz : hp.objs.size ≤ hp.objs.size + 1 := Nat.le_succ _
  have hn : H1 (hp.objs.size + 1) = none := I1.hok.fresh hsz
  have hq := q1 (hp.objs.size + 1) hn
  have kk : ∀ b o, hp.get? b = some o → ((hp.push (PySem.W.kdv_tup us)).push (HandSPX.excO C hp.objs.size)).get? b = some o := fun b o e => Heap.get?_push_of_some _ (Heap.get?_push_of_some _ e)
  have hget : ((hp.push (PySem.W.kdv_tup us)).push (HandSPX.excO C hp.objs.size)).get? (hp.objs.size + 1) = some (HandSPX.excO C hp.objs.size) := by heap_get
  have I2 : Inv X pins σ (upd H1 (hp.objs.size + 1) (exo (hp.objs.size + 1) C none)) ⟨(hp.push (PySem.W.kdv_tup us)).push (HandSPX.excO C hp.objs.size), g, dr, tk, os⟩ :=
    I1.laid (t' := tk) (a := hp.objs.size + 1) (o := exo (hp.objs.size + 1) C none) kk hsz (exo_ok hget)
  have r2 : Vals (V.ref (hp.objs.size + 1) :: vs) (Value.ref (hp.objs.size + 1) :: us) := .cons rfl r1
  have hl : (Value.ref (hp.objs.size + 1) :: us ++ []).length = ps.length := by
    rw [List.append_nil, ← r2.length]
    exact F1.len _ _ _ _ hq
  have hus : us.length ≤ sizeLine := by
    rw [← r1.length, sizeLine_eq]
    omega
  have bd := hb ⟨(hp.push (PySem.W.kdv_tup us)).push (HandSPX.excO C hp.objs.size), g, dr, tk, os⟩ (Value.ref (hp.objs.size + 1) :: us) I2.kIn hl
  rw [List.append_nil] at bd
  refine wpAny_call (HandSPX.call_own T.F hT hC (PySem.W.looks_findIn I1.kIn iC) (fun self => PySem.W.bind_fn I1.kIn self tI) hus
    (codeAny_mono (F1.run _ X.stack _ _ ⟨Value.ref (hp.objs.size + 1) :: us, []⟩ (Value.ref (hp.objs.size + 1) :: us) _ _ (fun _ _ _ => False) (hr.make C us []) (I2.env0.make C us []) bd r2 hq) fun r s' hq' => ?_))
  match r, hq' with
  | .error er, hq' => exact hq'.elim
  | .ok .next, hq' => exact hq'.elim
  | .ok .brk, hq' => exact hq'.elim
  | .ok .cont, hq' => exact hq'.elim
  | .ok (.ret u), ⟨v, H2, os2, bare2, un2, hok2, rv, ev, q2⟩ =>
    subst ev
    obtain ⟨h2, g2, d2, t2, os'⟩ := s'
    obtain rfl : u = Value.none := rv
    have nha : ∀ {b : Addr} {o : Obj}, hp.get? b = some o → b ≠ hp.objs.size + 1 := fun {b o} z => Nat.ne_of_lt (Nat.lt_of_lt_of_le (Heap.lt_size z) hsz)
    have up : ∀ {b : Addr} {o : Option HO}, b ≠ hp.objs.size + 1 → H1 b = o → upd H1 (hp.objs.size + 1) (exo (hp.objs.size + 1) C none) b = o := fun {b o} hb n => by rw [upd_ne hb]; exact n
    have U0 : ∀ {H3 : Hp}, (∀ b o, hp.get? b = some o → H1 b = none → H3 b = none) → (∀ b o, H2 b = some o → (∃ xs, o = .tup xs) ∨ (∃ u v, o = .frz u v) ∨ (∃ ps, o = .tbl ps) → H3 b = some o) → Un (frs X.stack) [] H1 H3 hp h2 := fun {H3} fr ke => {
      keep := fun b o z n hf hx => un2.keep b o (kk b o z) (up (nha z) n) hf hx
      slot := fun b o z n hf hx => un2.slot b o (kk b o z) (up (nha z) n) hf hx
      free := fun b o z n hx => fr b o z n
      there := fun b o z hx => un2.there b o (kk b o z) hx
      tups := fun b xs z => ke b _ (un2.tups b xs (up (ne_of_none z hn) z)) (.inl ⟨xs, rfl⟩)
      frzs := fun b o v z => ke b _ (un2.frzs b o v (up (ne_of_none z hn) z)) (.inr (.inl ⟨o, v, rfl⟩))
      tbls := fun b ps z => by
        obtain ⟨more, z2⟩ := un2.tbls b ps (up (ne_of_none z hn) z)
        exact ⟨more, ke b _ z2 (.inr (.inr ⟨_, rfl⟩))⟩ }
    have fr2 : ∀ {b : Addr} {o : Obj}, hp.get? b = some o → H1 b = none → H2 b = none := fun {b o} z n => un2.free b o (kk b o z) (up (nha z) n) (by simp)
    refine ⟨rfl, ?_⟩
    rcases q2 with ⟨ea, qq⟩ | ⟨d, fs, ea, ed, hda, qq⟩
    · obtain ⟨t0, hoe⟩ := exo_at hok2 ea
      refine ⟨.ref _, _, I1.call' (ch := []) os2 (U0 (fun b o z n => ?_) fun b o z ho => ?_) (fun b o z => ?_) bare2 (fun b z => absurd z (by simp)), rfl, qq⟩
      · rw [upd_ne (nha z)]
        exact fr2 z n
      · rw [upd_ne (fun hb => ?_)]
        · exact z
        · rw [hb, ea] at z
          have z := Option.some.inj z
          rcases ho with ⟨_, ho⟩ | ⟨_, _, ho⟩ | ⟨_, ho⟩ <;> (rw [ho] at z; cases z)
      · by_cases hb : b = hp.objs.size + 1
        · subst hb
          rw [upd_same] at z
          cases z
          exact exk_ok hoe ⟨rfl, rfl⟩ rfl
        · rw [upd_ne hb] at z
          exact (hok2 b o z).stay (fun c v hc y => y) (fun c hc => (upd_ne (at_ne ea hc exo_own)).trans hc) fun c xs hc => (upd_ne (at_ne ea hc exo_tup)).trans hc
    · obtain ⟨t0, hoe⟩ := exo_at hok2 ea
      obtain ⟨mA, hns, rel⟩ := exd_at hok2 ed
      have nd : ∀ {b : Addr} {o : Obj}, hp.get? b = some o → H1 b = none → b ≠ d := fun {b o} z n e => by
        have y := fr2 z n
        rw [e, ed] at y
        cases y
      have keep : ∀ {b : Addr} {o : HO}, b ≠ hp.objs.size + 1 → b ≠ d → H2 b = some o → upd (upd H2 (hp.objs.size + 1) (ExK (.ref C) (some d) (hp.objs.size + 1))) d (.xd fs) b = some o := fun {b o} b1 b2 z => by
        rw [upd_ne b2, upd_ne b1]
        exact z
      refine ⟨.ref _, _, I1.call' (ch := []) os2 (U0 (fun b o z n => ?_) fun b o z ho => ?_) (fun b o z => ?_) bare2 (fun b z => absurd z (by simp)), rfl, qq⟩
      · rw [upd_ne (nd z n), upd_ne (nha z)]
        exact fr2 z n
      · refine keep (fun hb => ?_) (fun hb => ?_) z
        · rw [hb, ea] at z
          have z := Option.some.inj z
          rcases ho with ⟨_, ho⟩ | ⟨_, _, ho⟩ | ⟨_, ho⟩ <;> (rw [ho] at z; cases z)
        · rw [hb, ed] at z
          have z := Option.some.inj z
          rcases ho with ⟨_, ho⟩ | ⟨_, _, ho⟩ | ⟨_, ho⟩ <;> (rw [ho] at z; cases z)
      · by_cases hbd : b = d
        · subst hbd
          rw [upd_same] at z
          cases z
          exact ⟨mA, hns, rel⟩
        · rw [upd_ne hbd] at z
          by_cases hb : b = hp.objs.size + 1
          · subst hb
            rw [upd_same] at z
            cases z
            exact exk_ok hoe ⟨rfl, rfl⟩ rfl
          · rw [upd_ne hb] at z
            exact (hok2 b o z).stay (fun c v hc y => y) (fun c hc => keep (at_ne ea hc exo_own) (at_ne ed hc exd_own) hc) fun c xs hc => keep (at_ne ea hc exo_tup) (at_ne ed hc exd_tup) hc
theorem pe_mkG {x : Str} {C fI : Addr} {k : Nat} {fd : FuncData} {ps : List Str} {sp : Sp} {B newId initId : String} {bm : List Value} (T : OxG X.K C B newId initId bm) (iC : PySem.W.findIn X.K (.ref C) "__init__" = some (some (.ref fI))) (tI : PySem.W.typeIn X.K (.ref fI) = some (.type "function"))
    (F1 : FnOk X.prog X.w X.K X.mg X.base CX0 k fI fd ps sp) (hr : Room (k + 1) X.A) (hb : Binds X.K fd ps []) (hg : Gl X x) (hm : X.mg x = some (.ref C)) (ha : PA X (e :: es) ta)
    (hdb : (x == ("__debug__" : Str)) = false := by decide) (he : starEach (e :: es) X.env = (false, eval e X.env) :: starEach es X.env := by rfl) (hpl : (backTo pos (starEach es X.env)).any (·.1) = false := by rfl) :
    PE X (.Call (.Name x p) (e :: es) [] pos) (fun σ H Q => ta σ H fun vs H1 => qMkV C sp vs H1 Q) := by
  refine ⟨fun pins s σ H Q I h => wpAny_Call_Name_kw (ld_glob I hg hm ?_ hdb)⟩
  exact PySem.W.callWith_K (h₀ := X.base) I.ok.mod.kin T.k (thn (ha.run pos pins s σ H _ I h) fun us s1 ⟨vs, H1, I1, r1, hq⟩ => ⟨I1.kIn, mkG_call T iC tI F1 hr hb I1 r1 hq⟩) he hpl
theorem pe_mkG0 {x : Str} {C fI : Addr} {k : Nat} {fd : FuncData} {ps : List Str} {sp : Sp} {B newId initId : String} {bm : List Value} (T : OxG X.K C B newId initId bm) (iC : PySem.W.findIn X.K (.ref C) "__init__" = some (some (.ref fI))) (tI : PySem.W.typeIn X.K (.ref fI) = some (.type "function"))
    (F1 : FnOk X.prog X.w X.K X.mg X.base CX0 k fI fd ps sp) (hr : Room (k + 1) X.A) (hb : Binds X.K fd ps []) (hg : Gl X x) (hm : X.mg x = some (.ref C)) (hdb : (x == ("__debug__" : Str)) = false := by decide) :
    PE X (.Call (.Name x p) [] [] pos) (fun σ H Q => qMkV C sp [] H Q) := by
  refine ⟨fun pins s σ H Q I h => wpAny_Call_Name_kw (ld_glob I hg hm ?_ hdb)⟩
  exact PySem.W.callWith_K0 I.kIn T.k (mkG_call (us := []) T iC tI F1 hr hb I .nil h)
end
end Kp


namespace Kp
open PySem PySem.Spec PyProof.Rows L2
/-! ### errors as values, over data -/
section
variable {X : Cx} {w0 : Wl} {ss : SS} {a b : Expr} {pos : Pos} {R : AV → Prop}
/-- text times a number -/
def repS (z : Str) (k : Int) : Str := if k < 1 then Str.empty else if (k == 1 || z.length == 0) = true then z else ⟨(List.replicate k.toNat z.cps).foldl (· ++ ·) #[]⟩
theorem op_repS : OpR X (binaryOp .Mult) (fun x y H Q => ∃ z k, x = .str z ∧ y = .int k ∧ (0 ≤ k ∧ k ≤ 1000 ∧ z.length ≤ 1000) ∧ Q (.str (repS z k)) H) := by
  intro pins s σ H x y v u Q I rx ry h
  obtain ⟨z, k, rfl, rfl, ⟨k0, k1, hz⟩, q⟩ := h
  obtain ⟨t, rfl⟩ := rx
  obtain ⟨t', rfl⟩ := ry
  have hm : z.length * k.toNat ≤ 1000000 := Nat.le_trans (Nat.mul_le_mul hz (show k.toNat ≤ 1000 by omega)) (by decide)
  have hlong : PySem.Builtin.Str.tooLong (z.length * k.toNat) = false := by
    unfold PySem.Builtin.Str.tooLong
    exact decide_eq_false (by rw [sizeLine_eq]; omega)
  refine PySem.P.mul_str (by rw [decide_eq_false (by omega), decide_eq_false (by omega)]; rfl) (fun h1 h2 => ?_) (fun _ _ => hlong) ?_
  · have : (1000 : Int) ≤ (2 ^ 63 - 1) / k := (Int.le_ediv_iff_mul_le (by omega)).mpr (by omega)
    omega
  · unfold repS at q
    by_cases h1 : k < 1
    · rw [if_pos h1] at q ⊢
      exact ⟨by decide, .str Str.empty, H, I.tok _, ⟨_, rfl⟩, q⟩
    · rw [if_neg h1] at q ⊢
      by_cases h2 : (k == 1 || z.length == 0) = true
      · rw [if_pos h2] at q ⊢
        exact ⟨.str z, H, I, ⟨_, rfl⟩, q⟩
      · rw [if_neg h2] at q ⊢
        exact ⟨fits_reps hlong, .str _, H, I.tok _, ⟨_, rfl⟩, q⟩
theorem k_mulS (h : KE X w0 a ss fun x => KE X w0 b ss fun y => ∃ z k, x = .dat (.str z) ∧ y = .dat (.int k) ∧ (0 ≤ k ∧ k ≤ 1000 ∧ z.length ≤ 1000) ∧ R (.dat (.str (repS z k)))) : KE X w0 (.BinOp a .Mult b pos) ss R :=
  k_op op_repS (KE.weak h fun x hx => KE.weak hx fun y hy vx vy w Q ax ay q => by
    obtain ⟨z, k, rfl, rfl, hc, hr⟩ := hy
    cases ax
    cases ay
    exact ⟨z, k, rfl, rfl, hc, go q (.str _) hr⟩)
theorem AvA.at {K : PySem.W.Frag} {w : Wl} {vs : List V} {as : List AV} {i : Int} {d : AV} (h : AvA K w vs as) (e : atI as i = some d) : ∃ v, atI vs i = some v ∧ Av K w v d := by
  unfold atI at e ⊢
  rw [h.length]
  cases q : ixN as.length i with
  | none => (rw [q] at e; cases e)
  | some j =>
    rw [q] at e
    exact h.get (show as[j]? = some d from e)
/-- one of what a list display holds, whatever it be -/
theorem k_pickE {es : List Expr} {p2 : Pos} (hp : PlainIx b) (h : KA X w0 es ss fun as => as.length ≤ 1000 ∧ KE X w0 b ss fun y => ∃ i x, y = .dat (.int i) ∧ atI as i = some x ∧ R x) : KE X w0 (.Subscript (.List es p2) b pos) ss R :=
  PE.imp (pe_ix ix_seq (pe_lst h) (pe_an (w0 := w0) (ss := ss)) hp) fun σ H Q ⟨w, ew, hs, q⟩ => ⟨w, ew, hs, fun vs as w1 l1 hvs hk => by
    obtain ⟨hz, hk⟩ := hk
    refine ⟨by rw [hvs.length]; exact Nat.le_trans hz (by decide), fun p hp => ?_⟩
    have le := Le.own (w := w1) (o := .lst vs) hp
    refine ⟨_, hk, w1.own p (.lst vs) (w1.gfree hp), rfl, (hs.mono l1).mono le, fun v2 y w2 l2 hv2 hy => ?_⟩
    obtain ⟨i, x, rfl, e, hr⟩ := hy
    cases hv2
    obtain ⟨v, e1, e2⟩ := ((hvs.mono le).mono l2).at e
    exact .inl ⟨_, _, _, v, rfl, rfl, .inl (.inl (l2.h _ _ upd_same)), e1, q v x w2 (l1.trans (le.trans l2)) e2 hr⟩⟩
/-- an own error's __init__ that keeps nothing -/
def spInit0 (C : Addr) : Sp := fun vs H Q _ => ∃ a : Addr, vs = [.ref a] ∧ H a = some (exo a C none) ∧ Q .non H
theorem k_mkE {x : Str} {C fI : Addr} {k : Nat} {fd : FuncData} {ps ns : List Str} {B n1 n2 : String} {bm : List Value} {e : Expr} {es : List Expr} {p : Pos} (T : OxG X.K C B n1 n2 bm) (iC : PySem.W.findIn X.K (.ref C) "__init__" = some (some (.ref fI)))
    (tI : PySem.W.typeIn X.K (.ref fI) = some (.type "function")) (F1 : FnOk X.prog X.w X.K X.mg X.base CX0 k fI fd ps (spInit C ns)) (hr : Room (k + 1) X.A) (hb : Binds X.K fd ps []) (hg : Gl X x) (hm : X.mg x = some (.ref C))
    (h : KA X w0 (e :: es) ss fun as => onDats as fun ds => ds.length = ns.length ∧ ds.length ≤ 1000 ∧ R (.err C (ns.zip ds).reverse))
    (hdb : (x == ("__debug__" : Str)) = false := by decide) (he : starEach (e :: es) X.env = (false, eval e X.env) :: starEach es X.env := by rfl) (hpl : (backTo pos (starEach es X.env)).any (·.1) = false := by rfl) : KE X w0 (.Call (.Name x p) (e :: es) [] pos) ss R :=
  PE.imp (pe_mkG T iC tI F1 hr hb hg hm h hdb he hpl) fun σ H Q ⟨w, ew, hs, q⟩ => ⟨w, ew, hs, fun vs as w1 l1 hvs hk => by
    obtain ⟨ds, rfl, hl, hz, hR⟩ := hk.of
    have hd := AvA.dats hvs
    refine ⟨by rw [hd.length]; exact hz, fun a ha => ⟨a, vs, rfl, by rw [hd.length]; exact hl, upd_same, fun dx H' h1 h2 h3 h4 h5 => ⟨rfl, .inr ⟨dx, _, h3, h4, h2, ?_⟩⟩⟩⟩
    have h1' : w1.h dx = none := by
      rw [upd_ne h2] at h1
      exact h1
    have hd2 : (w1.put a (ExK (.ref C) (some dx) a)).h dx = none := (upd_ne h2).trans h1'
    have le := (Le.put (o := ExK (.ref C) (some dx) a) ha).trans (Le.put (o := .xd (ns.zip vs).reverse) hd2)
    have eh : upd (upd H' a (ExK (.ref C) (some dx) a)) dx (.xd (ns.zip vs).reverse) = ((w1.put a (ExK (.ref C) (some dx) a)).put dx (.xd (ns.zip vs).reverse)).h := by
      funext b
      show _ = upd (upd w1.h a _) dx _ b
      by_cases b1 : b = dx
      · rw [b1, upd_same, upd_same]
      · rw [upd_ne b1, upd_ne b1]
        by_cases b2 : b = a
        · rw [b2, upd_same, upd_same]
        · rw [upd_ne b2, upd_ne b2, h5 b b2 b1, upd_ne b2]
    rw [eh]
    refine q (.ref a) (.err C (ns.zip ds).reverse) _ (l1.trans le) ⟨a, some dx, (ns.zip vs).reverse, rfl, ?_, upd_same, ((FdA.zip ns hd).rev).mono le.g⟩ hR
    exact (upd_ne (Ne.symm h2)).trans upd_same⟩
theorem k_mkE0 {x : Str} {C fI : Addr} {k : Nat} {fd : FuncData} {ps : List Str} {B n1 n2 : String} {bm : List Value} {p : Pos} (T : OxG X.K C B n1 n2 bm) (iC : PySem.W.findIn X.K (.ref C) "__init__" = some (some (.ref fI)))
    (tI : PySem.W.typeIn X.K (.ref fI) = some (.type "function")) (F1 : FnOk X.prog X.w X.K X.mg X.base CX0 k fI fd ps (spInit0 C)) (hr : Room (k + 1) X.A) (hb : Binds X.K fd ps []) (hg : Gl X x) (hm : X.mg x = some (.ref C)) (hR : R (.err C []))
    (hdb : (x == ("__debug__" : Str)) = false := by decide) : KE X w0 (.Call (.Name x p) [] [] pos) ss R :=
  PE.imp (pe_mkG0 T iC tI F1 hr hb hg hm hdb) fun σ H Q ⟨w, ew, hs, q⟩ => by
    subst ew
    refine ⟨Nat.zero_le _, fun a ha => ⟨a, rfl, upd_same, rfl, .inl ⟨upd_same, ?_⟩⟩⟩
    have eh : upd (upd w.h a (exo a C none)) a (ExK (.ref C) none a) = (w.put a (ExK (.ref C) none a)).h := by
      funext b
      show _ = upd w.h a _ b
      by_cases b1 : b = a
      · rw [b1, upd_same, upd_same]
      · rw [upd_ne b1, upd_ne b1, upd_ne b1]
    rw [eh]
    exact q (.ref a) (.err C []) _ (Le.put ha) ⟨a, none, [], rfl, upd_same, rfl, rfl, .nil⟩ hR
/-! ### kinds of own errors -/
def noRef : List Value → Bool
  | [] => true
  | .type _ :: l => noRef l
  | _ :: _ => false
theorem noRef_not {C : Addr} : ∀ {l : List Value}, noRef l = true → l.contains (.ref C) = false
  | [], _ => rfl
  | .type T :: l, h => by
    rw [List.contains_cons, noRef_not (l := l) h]
    rfl
end
/-- what the top says of an own error class: its name, its fields, what stands above it -/
structure ErK (K : PySem.W.Frag) (mg : Str → Option Value) (x qual : Str) (fs : List Str) (tl : List Value) (st : Stmt) (ps : List Str) (C : Addr) : Prop where
  ox : ∃ B n1 n2, OxG K C B n1 n2 tl
  nm : ∃ cd, PySem.W.clsIn K C = some cd ∧ cd.name = x ∧ cd.mro = .ref C :: tl
  tl : noRef tl = true
  fI : ∃ (fI : Addr) (fd : FuncData), PySem.W.findIn K (.ref C) "__init__" = some (some (.ref fI)) ∧ PySem.W.typeIn K (.ref fI) = some (.type "function") ∧ Fun K "__init__" qual st fI fd ∧ Binds K fd ps []
  m : mg x = some (.ref C)
  ty : PySem.W.typeIn K (.ref C) = some (.type "type")
  no : ∀ f ∈ fs, PySem.W.findIn K (.ref C) f = some none
  xf : XfC K C
  ex : ExcC K C
section
variable {K : PySem.W.Frag} {mg : Str → Option Value} {x x2 qual q2 : Str} {fs f2 : List Str} {tl t2 : List Value} {st st2 : Stmt} {ps ps2 : List Str} {C D : Addr}
theorem ErK.kit (h : ErK K mg x qual fs tl st ps D) (g : ErK K mg x2 q2 f2 t2 st2 ps2 C) : PySem.W.kitOne K (.ref D) (.ref C) = some (decide (x2 = x)) := by
  obtain ⟨cd, h1, h2, h3⟩ := h.nm
  obtain ⟨ce, g1, g2, g3⟩ := g.nm
  unfold PySem.W.kitOne
  by_cases e : C = D
  · subst e
    rw [h1] at g1
    cases g1
    rw [if_pos (beq_self_eq_true _), ← h2, ← g2, decide_eq_true rfl]
  · have e2 : (Value.ref D == Value.ref C) = false := beq_eq_false_iff_ne.mpr fun z => e (Value.ref.inj z).symm
    rw [e2, if_neg Bool.false_ne_true]
    have hne : ¬ x2 = x := fun z => by
      have hm := h.m
      have gm := g.m
      rw [z, hm] at gm
      exact e (Value.ref.inj (Option.some.inj gm)).symm
    rw [decide_eq_false hne]
    have e3 : ((PySem.W.clsIn K C).isSome && PySem.W.typeIn K (.ref C) == some (.type "type")) = true := by
      rw [g1, g.ty]
      exact Bool.and_eq_true_iff.mpr ⟨rfl, beq_self_eq_true _⟩
    show (if _ then PySem.W.subIn K (.ref D) (.ref C) else none) = _
    rw [if_pos e3]
    show PySem.W.mroIn K D (.ref C) = _
    unfold PySem.W.mroIn
    rw [h1, Option.bind_some, h3, if_neg (show ¬ (List.isEmpty (Value.ref D :: tl) = true) from Bool.false_ne_true), List.contains_cons, noRef_not h.tl]
    rw [beq_eq_false_iff_ne.mpr fun z => e (Value.ref.inj z)]
    rfl
theorem ErK.kitT (h : ErK K mg x qual fs tl st ps D) {T : String} (hT : PySem.W.kitMeta T = true) : PySem.W.kitOne K (.ref D) (.type T) = some (tl.contains (.type T)) := by
  obtain ⟨cd, h1, h2, h3⟩ := h.nm
  unfold PySem.W.kitOne
  have e2 : (Value.ref D == Value.type T) = false := beq_eq_false_iff_ne.mpr fun z => by cases z
  rw [e2, if_neg Bool.false_ne_true]
  show (if _ then PySem.W.subIn K (.ref D) (.type T) else none) = _
  rw [if_pos hT]
  show PySem.W.mroIn K D (.type T) = _
  unfold PySem.W.mroIn
  rw [h1, Option.bind_some, h3, if_neg (show ¬ (List.isEmpty (Value.ref D :: tl) = true) from Bool.false_ne_true), List.contains_cons]
  rw [beq_eq_false_iff_ne.mpr fun z => by cases z]
  rfl
end
end Kp


namespace K05
open PySem PySem.Spec PyProof.Rows L2 Kp
def top (i : Nat) : Stmt := PySem.Challenge.pw_readsfrom_k05_refusals_apart.main.body.getD i (.Pass ⟨0, 0, 0, 0⟩)
def clsBody : Stmt → List Stmt
  | .ClassDef (body := b) .. => b
  | _ => []
abbrev sInit (i : Nat) : Stmt := ((clsBody (top (i + 1))).filter fun s => match s with | .FunctionDef .. => true | _ => false).getD 0 (.Pass ⟨0, 0, 0, 0⟩)
abbrev lPool : Stmt := top 15
abbrev lTake : Stmt := top 16
abbrev lKinds : Stmt := top 17
abbrev lBase : Stmt := top 18
abbrev lMade : Stmt := top 19
abbrev lField : Stmt := top 20
abbrev lFields : Stmt := top 21
abbrev lDue : Stmt := top 22
abbrev lValue : Stmt := top 23
abbrev lRight : Stmt := top 24
abbrev lLaw : Stmt := top 25
/-! ### the thirteen classes -/
abbrev nms : Nat → Str
  | 0 => "NoProgram"
  | 1 => "NoText"
  | 2 => "NoGraph"
  | 3 => "NoNames"
  | 4 => "NoPicks"
  | 5 => "NoRow"
  | 6 => "NoHand"
  | 7 => "NoNumber"
  | 8 => "NoRun"
  | 9 => "NoStep"
  | 10 => "NoName"
  | 11 => "TooMany"
  | 12 => "Bare"
  | _ => ""
abbrev qual : Nat → Str
  | 0 => "NoProgram.__init__"
  | 1 => "NoText.__init__"
  | 2 => "NoGraph.__init__"
  | 3 => "NoNames.__init__"
  | 4 => "NoPicks.__init__"
  | 5 => "NoRow.__init__"
  | 6 => "NoHand.__init__"
  | 7 => "NoNumber.__init__"
  | 8 => "NoRun.__init__"
  | 9 => "NoStep.__init__"
  | 10 => "NoName.__init__"
  | 11 => "TooMany.__init__"
  | 12 => "Bare.__init__"
  | _ => ""
abbrev flds : Nat → List Str
  | 0 => ["part", "hand", "number"]
  | 1 => ["row"]
  | 2 => ["rule"]
  | 3 => ["which"]
  | 4 => []
  | 5 => []
  | 6 => ["hand"]
  | 7 => ["number"]
  | 8 => ["number"]
  | 9 => ["hand"]
  | 10 => ["name"]
  | 11 => ["many"]
  | 12 => []
  | _ => []
abbrev pss : Nat → List Str
  | 0 => ["self", "part", "hand", "number"]
  | 1 => ["self", "row"]
  | 2 => ["self", "rule"]
  | 3 => ["self", "which"]
  | 4 => ["self"]
  | 5 => ["self"]
  | 6 => ["self", "hand"]
  | 7 => ["self", "number"]
  | 8 => ["self", "number"]
  | 9 => ["self", "hand"]
  | 10 => ["self", "name"]
  | 11 => ["self", "many"]
  | 12 => ["self"]
  | _ => []
abbrev tls : Nat → List Value
  | 0 => [.type "ValueError", .type "Exception", .type "BaseException", .type "object"]
  | 1 => [.type "ValueError", .type "Exception", .type "BaseException", .type "object"]
  | 2 => [.type "ValueError", .type "Exception", .type "BaseException", .type "object"]
  | 3 => [.type "ValueError", .type "Exception", .type "BaseException", .type "object"]
  | 4 => [.type "ValueError", .type "Exception", .type "BaseException", .type "object"]
  | 5 => [.type "ValueError", .type "Exception", .type "BaseException", .type "object"]
  | 6 => [.type "IndexError", .type "LookupError", .type "Exception", .type "BaseException", .type "object"]
  | 7 => [.type "IndexError", .type "LookupError", .type "Exception", .type "BaseException", .type "object"]
  | 8 => [.type "IndexError", .type "LookupError", .type "Exception", .type "BaseException", .type "object"]
  | 9 => [.type "LookupError", .type "Exception", .type "BaseException", .type "object"]
  | 10 => [.type "LookupError", .type "Exception", .type "BaseException", .type "object"]
  | 11 => [.type "OverflowError", .type "ArithmeticError", .type "Exception", .type "BaseException", .type "object"]
  | 12 => [.type "RuntimeError", .type "Exception", .type "BaseException", .type "object"]
  | _ => []
def Ers (K : PySem.W.Frag) (mg : Str → Option Value) (cl : Nat → Addr) : Prop := ∀ i : Nat, i < 13 → ErK K mg (nms i) (qual i) (flds i) (tls i) (sInit i) (pss i) (cl i)
section
variable {base : Heap} {K : PySem.W.Frag} {w : World} {P : Program} {mg : Str → Option Value} {cl : Nat → Addr}
theorem scI0 : FnScope ["self", "part", "hand", "number"] ["self", "part", "hand", "number"] (defScope (sInit 0)) := ⟨rfl, rfl, rfl, by decide +kernel, rfl, by decide +kernel, by decide +kernel⟩
theorem in0 (T : Ers K mg cl) : ∃ (fI : Addr) (fd : FuncData), PySem.W.findIn K (.ref (cl 0)) "__init__" = some (some (.ref fI)) ∧ PySem.W.typeIn K (.ref fI) = some (.type "function") ∧ FnOk P w K mg base CX0 1 fI fd ["self", "part", "hand", "number"] (spInit (cl 0) ["part", "hand", "number"]) ∧ Binds K fd ["self", "part", "hand", "number"] [] := by
  have h := T 0 (by decide)
  obtain ⟨B, n1, n2, ox⟩ := h.ox
  obtain ⟨fI, fd, iC, tI, F, hb⟩ := h.fI
  refine ⟨fI, fd, iC, tI, F.ok scI0 (fun vs H Q E ⟨a, ws, e, hl, _⟩ => by subst e; exact congrArg (· + 1) hl) fun cdv A outer s H vs Q E hr ⟨a, ws, e, hl, ha, q⟩ => ?_, hb⟩
  subst e
  match ws, hl with
  | [x, y, z], _ =>
  refine ⟨_, pss_cons (ps_osG (pv 0) (pv 1)) (pss_cons (ps_osG (pv 0) (pv 2)) (pss_one (ps_osG (pv 0) (pv 3)))), ?_⟩
  refine ⟨_, rfl, _, rfl, a, cl 0, B, n1, n2, _, rfl, ox, h.no _ List.mem_cons_self, .inl ⟨ha, fun dx h1 h2 => ?_⟩⟩
  have e1 : (upd (upd H dx (exd dx [("part", x)])) a (exo a (cl 0) (some dx))) dx = some (exd dx [("part", x)]) := by rw [upd_ne h2, upd_same]
  refine ⟨_, rfl, _, rfl, a, cl 0, B, n1, n2, _, rfl, ox, h.no _ (List.mem_cons_of_mem _ List.mem_cons_self), .inr ⟨dx, _, upd_same, e1, Nat.le_of_ble_eq_true rfl, ?_⟩⟩
  have e2 : (upd (upd (upd H dx (exd dx [("part", x)])) a (exo a (cl 0) (some dx))) dx (exd dx [("hand", y), ("part", x)])) a = some (exo a (cl 0) (some dx)) := by rw [upd_ne (Ne.symm h2), upd_same]
  refine ⟨_, rfl, _, rfl, a, cl 0, B, n1, n2, _, rfl, ox, h.no _ (List.mem_cons_of_mem _ (List.mem_cons_of_mem _ List.mem_cons_self)), .inr ⟨dx, _, e2, upd_same, Nat.le_of_ble_eq_true rfl, ?_⟩⟩
  refine q dx _ h1 h2 ?_ upd_same fun b b1 b2 => ?_
  · rw [upd_ne (Ne.symm h2)]; exact e2
  · rw [upd_ne b2, upd_ne b2, upd_ne b1, upd_ne b2]
theorem scI1 : FnScope ["self", "row"] ["self", "row"] (defScope (sInit 1)) := ⟨rfl, rfl, rfl, by decide +kernel, rfl, by decide +kernel, by decide +kernel⟩
theorem in1 (T : Ers K mg cl) : ∃ (fI : Addr) (fd : FuncData), PySem.W.findIn K (.ref (cl 1)) "__init__" = some (some (.ref fI)) ∧ PySem.W.typeIn K (.ref fI) = some (.type "function") ∧ FnOk P w K mg base CX0 1 fI fd ["self", "row"] (spInit (cl 1) ["row"]) ∧ Binds K fd ["self", "row"] [] := by
  have h := T 1 (by decide)
  obtain ⟨B, n1, n2, ox⟩ := h.ox
  obtain ⟨fI, fd, iC, tI, F, hb⟩ := h.fI
  refine ⟨fI, fd, iC, tI, F.ok scI1 (fun vs H Q E ⟨a, ws, e, hl, _⟩ => by subst e; exact congrArg (· + 1) hl) fun cdv A outer s H vs Q E hr ⟨a, ws, e, hl, ha, q⟩ => ?_, hb⟩
  subst e
  match ws, hl with
  | [x], _ =>
  refine ⟨_, pss_one (ps_osG (pv 0) (pv 1)), ?_⟩
  refine ⟨_, rfl, _, rfl, a, cl 1, B, n1, n2, _, rfl, ox, h.no _ List.mem_cons_self, .inl ⟨ha, fun dx h1 h2 => ?_⟩⟩
  refine q dx _ h1 h2 upd_same ?_ fun b b1 b2 => ?_
  · rw [upd_ne h2, upd_same]; rfl
  · rw [upd_ne b1, upd_ne b2]
theorem scI2 : FnScope ["self", "rule"] ["self", "rule"] (defScope (sInit 2)) := ⟨rfl, rfl, rfl, by decide +kernel, rfl, by decide +kernel, by decide +kernel⟩
theorem in2 (T : Ers K mg cl) : ∃ (fI : Addr) (fd : FuncData), PySem.W.findIn K (.ref (cl 2)) "__init__" = some (some (.ref fI)) ∧ PySem.W.typeIn K (.ref fI) = some (.type "function") ∧ FnOk P w K mg base CX0 1 fI fd ["self", "rule"] (spInit (cl 2) ["rule"]) ∧ Binds K fd ["self", "rule"] [] := by
  have h := T 2 (by decide)
  obtain ⟨B, n1, n2, ox⟩ := h.ox
  obtain ⟨fI, fd, iC, tI, F, hb⟩ := h.fI
  refine ⟨fI, fd, iC, tI, F.ok scI2 (fun vs H Q E ⟨a, ws, e, hl, _⟩ => by subst e; exact congrArg (· + 1) hl) fun cdv A outer s H vs Q E hr ⟨a, ws, e, hl, ha, q⟩ => ?_, hb⟩
  subst e
  match ws, hl with
  | [x], _ =>
  refine ⟨_, pss_one (ps_osG (pv 0) (pv 1)), ?_⟩
  refine ⟨_, rfl, _, rfl, a, cl 2, B, n1, n2, _, rfl, ox, h.no _ List.mem_cons_self, .inl ⟨ha, fun dx h1 h2 => ?_⟩⟩
  refine q dx _ h1 h2 upd_same ?_ fun b b1 b2 => ?_
  · rw [upd_ne h2, upd_same]; rfl
  · rw [upd_ne b1, upd_ne b2]
theorem scI3 : FnScope ["self", "which"] ["self", "which"] (defScope (sInit 3)) := ⟨rfl, rfl, rfl, by decide +kernel, rfl, by decide +kernel, by decide +kernel⟩
theorem in3 (T : Ers K mg cl) : ∃ (fI : Addr) (fd : FuncData), PySem.W.findIn K (.ref (cl 3)) "__init__" = some (some (.ref fI)) ∧ PySem.W.typeIn K (.ref fI) = some (.type "function") ∧ FnOk P w K mg base CX0 1 fI fd ["self", "which"] (spInit (cl 3) ["which"]) ∧ Binds K fd ["self", "which"] [] := by
  have h := T 3 (by decide)
  obtain ⟨B, n1, n2, ox⟩ := h.ox
  obtain ⟨fI, fd, iC, tI, F, hb⟩ := h.fI
  refine ⟨fI, fd, iC, tI, F.ok scI3 (fun vs H Q E ⟨a, ws, e, hl, _⟩ => by subst e; exact congrArg (· + 1) hl) fun cdv A outer s H vs Q E hr ⟨a, ws, e, hl, ha, q⟩ => ?_, hb⟩
  subst e
  match ws, hl with
  | [x], _ =>
  refine ⟨_, pss_one (ps_osG (pv 0) (pv 1)), ?_⟩
  refine ⟨_, rfl, _, rfl, a, cl 3, B, n1, n2, _, rfl, ox, h.no _ List.mem_cons_self, .inl ⟨ha, fun dx h1 h2 => ?_⟩⟩
  refine q dx _ h1 h2 upd_same ?_ fun b b1 b2 => ?_
  · rw [upd_ne h2, upd_same]; rfl
  · rw [upd_ne b1, upd_ne b2]
theorem scI4 : FnScope ["self"] ["self"] (defScope (sInit 4)) := ⟨rfl, rfl, rfl, by decide +kernel, rfl, by decide +kernel, by decide +kernel⟩
theorem in4 (T : Ers K mg cl) : ∃ (fI : Addr) (fd : FuncData), PySem.W.findIn K (.ref (cl 4)) "__init__" = some (some (.ref fI)) ∧ PySem.W.typeIn K (.ref fI) = some (.type "function") ∧ FnOk P w K mg base CX0 1 fI fd ["self"] (spInit0 (cl 4)) ∧ Binds K fd ["self"] [] := by
  have h := T 4 (by decide)
  obtain ⟨B, n1, n2, ox⟩ := h.ox
  obtain ⟨fI, fd, iC, tI, F, hb⟩ := h.fI
  refine ⟨fI, fd, iC, tI, F.ok scI4 (fun vs H Q E ⟨a, e, _⟩ => by subst e; rfl) fun cdv A outer s H vs Q E hr ⟨a, e, ha, q⟩ => ?_, hb⟩
  subst e
  exact ⟨_, pss_one ps_pass, q⟩
theorem scI5 : FnScope ["self"] ["self"] (defScope (sInit 5)) := ⟨rfl, rfl, rfl, by decide +kernel, rfl, by decide +kernel, by decide +kernel⟩
theorem in5 (T : Ers K mg cl) : ∃ (fI : Addr) (fd : FuncData), PySem.W.findIn K (.ref (cl 5)) "__init__" = some (some (.ref fI)) ∧ PySem.W.typeIn K (.ref fI) = some (.type "function") ∧ FnOk P w K mg base CX0 1 fI fd ["self"] (spInit0 (cl 5)) ∧ Binds K fd ["self"] [] := by
  have h := T 5 (by decide)
  obtain ⟨B, n1, n2, ox⟩ := h.ox
  obtain ⟨fI, fd, iC, tI, F, hb⟩ := h.fI
  refine ⟨fI, fd, iC, tI, F.ok scI5 (fun vs H Q E ⟨a, e, _⟩ => by subst e; rfl) fun cdv A outer s H vs Q E hr ⟨a, e, ha, q⟩ => ?_, hb⟩
  subst e
  exact ⟨_, pss_one ps_pass, q⟩
theorem scI6 : FnScope ["self", "hand"] ["self", "hand"] (defScope (sInit 6)) := ⟨rfl, rfl, rfl, by decide +kernel, rfl, by decide +kernel, by decide +kernel⟩
theorem in6 (T : Ers K mg cl) : ∃ (fI : Addr) (fd : FuncData), PySem.W.findIn K (.ref (cl 6)) "__init__" = some (some (.ref fI)) ∧ PySem.W.typeIn K (.ref fI) = some (.type "function") ∧ FnOk P w K mg base CX0 1 fI fd ["self", "hand"] (spInit (cl 6) ["hand"]) ∧ Binds K fd ["self", "hand"] [] := by
  have h := T 6 (by decide)
  obtain ⟨B, n1, n2, ox⟩ := h.ox
  obtain ⟨fI, fd, iC, tI, F, hb⟩ := h.fI
  refine ⟨fI, fd, iC, tI, F.ok scI6 (fun vs H Q E ⟨a, ws, e, hl, _⟩ => by subst e; exact congrArg (· + 1) hl) fun cdv A outer s H vs Q E hr ⟨a, ws, e, hl, ha, q⟩ => ?_, hb⟩
  subst e
  match ws, hl with
  | [x], _ =>
  refine ⟨_, pss_one (ps_osG (pv 0) (pv 1)), ?_⟩
  refine ⟨_, rfl, _, rfl, a, cl 6, B, n1, n2, _, rfl, ox, h.no _ List.mem_cons_self, .inl ⟨ha, fun dx h1 h2 => ?_⟩⟩
  refine q dx _ h1 h2 upd_same ?_ fun b b1 b2 => ?_
  · rw [upd_ne h2, upd_same]; rfl
  · rw [upd_ne b1, upd_ne b2]
theorem scI7 : FnScope ["self", "number"] ["self", "number"] (defScope (sInit 7)) := ⟨rfl, rfl, rfl, by decide +kernel, rfl, by decide +kernel, by decide +kernel⟩
theorem in7 (T : Ers K mg cl) : ∃ (fI : Addr) (fd : FuncData), PySem.W.findIn K (.ref (cl 7)) "__init__" = some (some (.ref fI)) ∧ PySem.W.typeIn K (.ref fI) = some (.type "function") ∧ FnOk P w K mg base CX0 1 fI fd ["self", "number"] (spInit (cl 7) ["number"]) ∧ Binds K fd ["self", "number"] [] := by
  have h := T 7 (by decide)
  obtain ⟨B, n1, n2, ox⟩ := h.ox
  obtain ⟨fI, fd, iC, tI, F, hb⟩ := h.fI
  refine ⟨fI, fd, iC, tI, F.ok scI7 (fun vs H Q E ⟨a, ws, e, hl, _⟩ => by subst e; exact congrArg (· + 1) hl) fun cdv A outer s H vs Q E hr ⟨a, ws, e, hl, ha, q⟩ => ?_, hb⟩
  subst e
  match ws, hl with
  | [x], _ =>
  refine ⟨_, pss_one (ps_osG (pv 0) (pv 1)), ?_⟩
  refine ⟨_, rfl, _, rfl, a, cl 7, B, n1, n2, _, rfl, ox, h.no _ List.mem_cons_self, .inl ⟨ha, fun dx h1 h2 => ?_⟩⟩
  refine q dx _ h1 h2 upd_same ?_ fun b b1 b2 => ?_
  · rw [upd_ne h2, upd_same]; rfl
  · rw [upd_ne b1, upd_ne b2]
theorem scI8 : FnScope ["self", "number"] ["self", "number"] (defScope (sInit 8)) := ⟨rfl, rfl, rfl, by decide +kernel, rfl, by decide +kernel, by decide +kernel⟩
theorem in8 (T : Ers K mg cl) : ∃ (fI : Addr) (fd : FuncData), PySem.W.findIn K (.ref (cl 8)) "__init__" = some (some (.ref fI)) ∧ PySem.W.typeIn K (.ref fI) = some (.type "function") ∧ FnOk P w K mg base CX0 1 fI fd ["self", "number"] (spInit (cl 8) ["number"]) ∧ Binds K fd ["self", "number"] [] := by
  have h := T 8 (by decide)
  obtain ⟨B, n1, n2, ox⟩ := h.ox
  obtain ⟨fI, fd, iC, tI, F, hb⟩ := h.fI
  refine ⟨fI, fd, iC, tI, F.ok scI8 (fun vs H Q E ⟨a, ws, e, hl, _⟩ => by subst e; exact congrArg (· + 1) hl) fun cdv A outer s H vs Q E hr ⟨a, ws, e, hl, ha, q⟩ => ?_, hb⟩
  subst e
  match ws, hl with
  | [x], _ =>
  refine ⟨_, pss_one (ps_osG (pv 0) (pv 1)), ?_⟩
  refine ⟨_, rfl, _, rfl, a, cl 8, B, n1, n2, _, rfl, ox, h.no _ List.mem_cons_self, .inl ⟨ha, fun dx h1 h2 => ?_⟩⟩
  refine q dx _ h1 h2 upd_same ?_ fun b b1 b2 => ?_
  · rw [upd_ne h2, upd_same]; rfl
  · rw [upd_ne b1, upd_ne b2]
theorem scI9 : FnScope ["self", "hand"] ["self", "hand"] (defScope (sInit 9)) := ⟨rfl, rfl, rfl, by decide +kernel, rfl, by decide +kernel, by decide +kernel⟩
theorem in9 (T : Ers K mg cl) : ∃ (fI : Addr) (fd : FuncData), PySem.W.findIn K (.ref (cl 9)) "__init__" = some (some (.ref fI)) ∧ PySem.W.typeIn K (.ref fI) = some (.type "function") ∧ FnOk P w K mg base CX0 1 fI fd ["self", "hand"] (spInit (cl 9) ["hand"]) ∧ Binds K fd ["self", "hand"] [] := by
  have h := T 9 (by decide)
  obtain ⟨B, n1, n2, ox⟩ := h.ox
  obtain ⟨fI, fd, iC, tI, F, hb⟩ := h.fI
  refine ⟨fI, fd, iC, tI, F.ok scI9 (fun vs H Q E ⟨a, ws, e, hl, _⟩ => by subst e; exact congrArg (· + 1) hl) fun cdv A outer s H vs Q E hr ⟨a, ws, e, hl, ha, q⟩ => ?_, hb⟩
  subst e
  match ws, hl with
  | [x], _ =>
  refine ⟨_, pss_one (ps_osG (pv 0) (pv 1)), ?_⟩
  refine ⟨_, rfl, _, rfl, a, cl 9, B, n1, n2, _, rfl, ox, h.no _ List.mem_cons_self, .inl ⟨ha, fun dx h1 h2 => ?_⟩⟩
  refine q dx _ h1 h2 upd_same ?_ fun b b1 b2 => ?_
  · rw [upd_ne h2, upd_same]; rfl
  · rw [upd_ne b1, upd_ne b2]
theorem scI10 : FnScope ["self", "name"] ["self", "name"] (defScope (sInit 10)) := ⟨rfl, rfl, rfl, by decide +kernel, rfl, by decide +kernel, by decide +kernel⟩
theorem in10 (T : Ers K mg cl) : ∃ (fI : Addr) (fd : FuncData), PySem.W.findIn K (.ref (cl 10)) "__init__" = some (some (.ref fI)) ∧ PySem.W.typeIn K (.ref fI) = some (.type "function") ∧ FnOk P w K mg base CX0 1 fI fd ["self", "name"] (spInit (cl 10) ["name"]) ∧ Binds K fd ["self", "name"] [] := by
  have h := T 10 (by decide)
  obtain ⟨B, n1, n2, ox⟩ := h.ox
  obtain ⟨fI, fd, iC, tI, F, hb⟩ := h.fI
  refine ⟨fI, fd, iC, tI, F.ok scI10 (fun vs H Q E ⟨a, ws, e, hl, _⟩ => by subst e; exact congrArg (· + 1) hl) fun cdv A outer s H vs Q E hr ⟨a, ws, e, hl, ha, q⟩ => ?_, hb⟩
  subst e
  match ws, hl with
  | [x], _ =>
  refine ⟨_, pss_one (ps_osG (pv 0) (pv 1)), ?_⟩
  refine ⟨_, rfl, _, rfl, a, cl 10, B, n1, n2, _, rfl, ox, h.no _ List.mem_cons_self, .inl ⟨ha, fun dx h1 h2 => ?_⟩⟩
  refine q dx _ h1 h2 upd_same ?_ fun b b1 b2 => ?_
  · rw [upd_ne h2, upd_same]; rfl
  · rw [upd_ne b1, upd_ne b2]
theorem scI11 : FnScope ["self", "many"] ["self", "many"] (defScope (sInit 11)) := ⟨rfl, rfl, rfl, by decide +kernel, rfl, by decide +kernel, by decide +kernel⟩
theorem in11 (T : Ers K mg cl) : ∃ (fI : Addr) (fd : FuncData), PySem.W.findIn K (.ref (cl 11)) "__init__" = some (some (.ref fI)) ∧ PySem.W.typeIn K (.ref fI) = some (.type "function") ∧ FnOk P w K mg base CX0 1 fI fd ["self", "many"] (spInit (cl 11) ["many"]) ∧ Binds K fd ["self", "many"] [] := by
  have h := T 11 (by decide)
  obtain ⟨B, n1, n2, ox⟩ := h.ox
  obtain ⟨fI, fd, iC, tI, F, hb⟩ := h.fI
  refine ⟨fI, fd, iC, tI, F.ok scI11 (fun vs H Q E ⟨a, ws, e, hl, _⟩ => by subst e; exact congrArg (· + 1) hl) fun cdv A outer s H vs Q E hr ⟨a, ws, e, hl, ha, q⟩ => ?_, hb⟩
  subst e
  match ws, hl with
  | [x], _ =>
  refine ⟨_, pss_one (ps_osG (pv 0) (pv 1)), ?_⟩
  refine ⟨_, rfl, _, rfl, a, cl 11, B, n1, n2, _, rfl, ox, h.no _ List.mem_cons_self, .inl ⟨ha, fun dx h1 h2 => ?_⟩⟩
  refine q dx _ h1 h2 upd_same ?_ fun b b1 b2 => ?_
  · rw [upd_ne h2, upd_same]; rfl
  · rw [upd_ne b1, upd_ne b2]
theorem scI12 : FnScope ["self"] ["self"] (defScope (sInit 12)) := ⟨rfl, rfl, rfl, by decide +kernel, rfl, by decide +kernel, by decide +kernel⟩
theorem in12 (T : Ers K mg cl) : ∃ (fI : Addr) (fd : FuncData), PySem.W.findIn K (.ref (cl 12)) "__init__" = some (some (.ref fI)) ∧ PySem.W.typeIn K (.ref fI) = some (.type "function") ∧ FnOk P w K mg base CX0 1 fI fd ["self"] (spInit0 (cl 12)) ∧ Binds K fd ["self"] [] := by
  have h := T 12 (by decide)
  obtain ⟨B, n1, n2, ox⟩ := h.ox
  obtain ⟨fI, fd, iC, tI, F, hb⟩ := h.fI
  refine ⟨fI, fd, iC, tI, F.ok scI12 (fun vs H Q E ⟨a, e, _⟩ => by subst e; rfl) fun cdv A outer s H vs Q E hr ⟨a, e, ha, q⟩ => ?_, hb⟩
  subst e
  exact ⟨_, pss_one ps_pass, q⟩
end
end K05


namespace K05
open PySem PySem.Spec PyProof.Rows L2 Kp
section
variable {base : Heap} {K : PySem.W.Frag} {w : World} {P : Program} {mg : Str → Option Value}
abbrev nTake : List Str := ["_law_pool_here", "_law_size", "_law_found"]
theorem scTake : FnScope nTake ["_law_pool_here", "_law_size"] (defScope lTake) := ⟨rfl, rfl, rfl, by decide +kernel, rfl, by decide +kernel, by decide +kernel⟩
theorem two0 {x y : Int} : atI [V.int x, V.int y] 0 = some (V.int x) := rfl
theorem two1 {x y : Int} : atI [V.int x, V.int y] 1 = some (V.int y) := rfl
theorem l_take (F : Fn0 K mg "_law_take" lTake ["_law_pool_here", "_law_size"]) : Dn P w K mg base "_law_take" 1 cTake := by
  obtain ⟨f, fd, F, hm, hb⟩ := F
  refine ⟨f, fd, _, take_pool (F.ok (sp := spTakeL) scTake (fun vs H Q E ⟨p, x, y, n, e, _⟩ => by subst e; rfl) fun cdv A outer s H vs Q E hr hC => ?_) rfl, hm, F.kp, hb⟩
  obtain ⟨p, x, y, n, rfl, hp, hy, n0, n1, hQ⟩ := hC
  refine ⟨_, pss_cons (ps_if (pt_cmpR op_gt (pe_ix ix_seq (pv 0) pe_int fun _ _ => rfl) pe_int rfl)
      (pss_cons (ps_set (i := 2) scTake.nd rfl (Or.inl rfl) (pe_op op_mod (pe_ix ix_seq (pv 0) pe_int fun _ _ => rfl) (pv 1)))
        (pss_cons (ps_asg (pe_op op_fdiv (pe_ix ix_seq (pv 0) pe_int fun _ _ => rfl) (pv 1)) (pg_sub (pv 0) pe_int set_list)) (pss_one (ps_ret (pv 2))))) pss_nil)
    (pss_cons (ps_asg (pe_op op_mod (pe_op op_add (pe_op op_mul (pe_ix ix_seq (pv 0) pe_int fun _ _ => rfl) pe_int) pe_int) pe_int) (pg_sub (pv 0) pe_int set_list))
      (pss_one (ps_ret (pe_op op_mod (pe_op op_fdiv (pe_op op_mod (pe_op op_mul (pe_ix ix_seq (pv 0) pe_int fun _ _ => rfl) (pe_ix ix_seq (pv 0) pe_int fun _ _ => rfl)) pe_int) pe_int) (pv 1))))), ?_⟩
  obtain ⟨y0, y1⟩ := hy
  refine ⟨_, rfl, .inl ⟨p, _, 0, _, rfl, rfl, .inl (.inl hp), two0, _, _, rfl, rfl, _, rfl, ?_⟩⟩
  by_cases hx : 0 < x
  · rw [decide_eq_true hx]
    refine iteT ?_
    refine ⟨_, rfl, .inl ⟨p, _, 0, _, rfl, rfl, .inl (.inl hp), two0, _, rfl, x, n, rfl, rfl, n0, ?_⟩⟩
    refine ⟨_, rfl, .inl ⟨p, _, 0, _, rfl, rfl, .inl (.inl hp), two0, _, rfl, x, n, rfl, rfl, ⟨n0, n1⟩, ?_⟩⟩
    refine ⟨_, rfl, p, _, 0, 0, rfl, rfl, hp, rfl, _, rfl, ?_⟩
    exact hQ (x % n) (x / n) y ⟨y0, y1⟩ (Int.emod_nonneg _ (by omega)) (Int.emod_lt_of_pos _ n0)
  · rw [decide_eq_false hx]
    refine iteF ?_
    refine ⟨_, rfl, .inl ⟨p, _, 1, _, rfl, rfl, .inl (.inl hp), two1, _, _, rfl, rfl, .inr ⟨by decide, by decide⟩, _, _, rfl, rfl, _, _, rfl, rfl, (show (0 : Int) < 2147483647 by decide), ?_⟩⟩
    refine ⟨_, rfl, p, _, 1, 1, rfl, rfl, hp, rfl, ?_⟩
    have e1 : 0 ≤ (y * 48271 + 11) % 2147483647 := Int.emod_nonneg _ (by decide)
    have e2 : (y * 48271 + 11) % 2147483647 < 2147483647 := Int.emod_lt_of_pos _ (by decide)
    refine ⟨_, rfl, .inl ⟨p, _, 1, _, rfl, rfl, .inl (.inl upd_same), two1, _, rfl, .inl ⟨p, _, 1, _, rfl, rfl, .inl (.inl upd_same), two1, _, _, rfl, rfl, .inl ⟨by omega, by omega⟩, _, _, rfl, rfl, (show (0 : Int) < 2147483629 by decide), _, _, rfl, rfl, ⟨by decide, by decide⟩, _, rfl, _, _, rfl, rfl, n0, ?_⟩⟩⟩
    exact hQ _ x _ ⟨e1, e2⟩ (Int.emod_nonneg _ (by omega)) (Int.emod_lt_of_pos _ n0)
end
section
variable {base : Heap} {K : PySem.W.Frag} {w : World} {P : Program} {mg : Str → Option Value}
abbrev nPool : List Str := ["_law_script", "_law_k", "_law_cell", "_law_seed"]
theorem scPool : FnScope nPool ["_law_script", "_law_k"] (defScope lPool) := ⟨rfl, rfl, rfl, by decide +kernel, rfl, by decide +kernel, by decide +kernel⟩
theorem ex_free {H H' : Hp} {p : Addr} (e : Ex H H') (h : H' p = none) : H p = none := by
  cases q : H p with
  | none => rfl
  | some o =>
    have := e p o q
    rw [h] at this
    cases this
theorem head_int {l : List V} (h : ∀ v ∈ l, ∃ i : Int, v = .int i) : ∃ c : Int, atI (l ++ [V.int 0]) 0 = some (.int c) := by
  cases l with
  | nil => exact ⟨0, rfl⟩
  | cons v l =>
    obtain ⟨i, rfl⟩ := h v List.mem_cons_self
    exact ⟨i, atI_nat (j := 0) rfl⟩
theorem cut_int {ns : List Int} {lo hi : Option Int} : (∀ v ∈ cutV (ns.map V.int) lo hi, ∃ i : Int, v = .int i) ∧ (cutV (ns.map V.int) lo hi).length ≤ ns.length := by
  unfold cutV
  refine ⟨fun v h => ?_, ?_⟩
  · have := List.mem_of_mem_drop (List.mem_of_mem_take h)
    obtain ⟨i, _, e⟩ := List.mem_map.mp this
    exact ⟨i, e.symm⟩
  · rw [List.length_take, List.length_drop, List.length_map]
    omega
theorem l_pool (B : Blt mg) (F : Fn0 K mg "_law_pool" lPool ["_law_script", "_law_k"]) : Dn P w K mg base "_law_pool" 1 cPool := by
  obtain ⟨f, fd, F, hm, hb⟩ := F
  refine ⟨f, fd, _, pool_pool (F.ok (sp := spPoolL K) scPool (fun vs H Q E ⟨p, ns, k, e, _⟩ => by subst e; rfl) fun cdv A outer s H vs Q E hr hC => ?_) rfl, hm, F.kp, hb⟩
  obtain ⟨a, ns, k, rfl, ha, hl, k0, k1, hQ⟩ := hC
  refine ⟨_, pss_cons (ps_set (i := 2) scPool.nd rfl (Or.inl rfl) (pe_ix ix_seq (pe_op op_cat (pe_slice sl_list (pv 0) (po_some (pv 1)) (po_some (pe_op op_add (pv 1) pe_int))) (pe_lst (pa_cons pe_int pa_nil))) pe_int fun _ _ => rfl))
    (pss_cons (ps_set (i := 3) scPool.nd rfl (Or.inl rfl) (pe_op op_mod (pe_op op_mul (pe_op op_add (pe_op op_add (pe_op op_mod (pv 2) pe_int) (pe_op op_mul pe_int (pv 1))) pe_int) pe_int) pe_int))
      (pss_one (ps_ret (pe_lst (pa_cons (pe_op op_mul (pe_callTy call_int1 rfl B.int b_int (pa_cons (pe_cmpR op_ge (pv 2) (pe_op op_pow pe_int pe_int) rfl) pa_nil)) (pv 2)) (pa_cons (pv 3) pa_nil)))))), ?_⟩
  obtain ⟨c1, c2⟩ := cut_int (ns := ns) (lo := some k) (hi := some (k + 1))
  obtain ⟨c, hc⟩ := head_int c1
  refine ⟨_, rfl, _, rfl, k, rfl, _, rfl, k, 1, rfl, rfl, k + 1, rfl, a, _, rfl, ha, fun p1 h1 => ⟨by decide, fun p2 h2 => ?_⟩⟩
  have e1 : upd (upd H p1 (.lst (cutV (ns.map V.int) (some k) (some (k + 1))))) p2 (.lst [V.int 0]) p1 = some (.lst (cutV (ns.map V.int) (some k) (some (k + 1)))) := by
    rw [upd_ne (ne_of_none upd_same h2)]
    exact upd_same
  refine ⟨p1, p2, _, _, rfl, rfl, e1, upd_same, Nat.le_trans (Nat.add_le_add c2 (Nat.le_refl 1)) (Nat.le_trans (Nat.add_le_add hl (Nat.le_refl 1)) (by decide)), fun p3 h3 => ?_⟩
  refine .inl ⟨p3, _, 0, _, rfl, rfl, .inl (.inl upd_same), hc, ?_⟩
  refine ⟨_, rfl, c, _, rfl, rfl, (show (0 : Int) < 2147483647 by decide), _, rfl, 7919, k, rfl, rfl, .inl ⟨by decide, by decide⟩, _, _, rfl, rfl, _, _, rfl, rfl, _, _, rfl, rfl, .inr ⟨by decide, by decide⟩, _, _, rfl, rfl, (show (0 : Int) < 2147483629 by decide), ?_⟩
  refine ⟨_, rfl, 10, 18, rfl, rfl, ⟨by decide, by decide, by decide⟩, c, _, rfl, rfl, .inr ⟨_, rfl, _, rfl, _, c, rfl, rfl, .inl ?_, _, rfl, (show 2 ≤ sizeLine by decide), fun p4 h4 => ?_⟩⟩
  · by_cases q : (10 : Int) ^ (18 : Int).toNat ≤ c
    · rw [decide_eq_true q]; exact ⟨by decide, by decide⟩
    · rw [decide_eq_false q]; exact ⟨by decide, by decide⟩
  · have x3 := ((Ex.new h1).trans (Ex.new h2)).trans (Ex.new (o := .lst (cutV (ns.map V.int) (some k) (some (k + 1)) ++ [V.int 0])) h3)
    refine hQ p4 _ _ _ (ex_free x3 h4) ⟨Int.emod_nonneg _ (by decide), Int.lt_trans (Int.emod_lt_of_pos _ (by decide)) (by decide)⟩ (x3.trans (Ex.new h4)) upd_same
end
end K05


namespace K05
open PySem PySem.Spec PyProof.Rows L2 Kp
/-- the fields of the i-th error, the latest first -/
abbrev flD (i : Nat) (a b c : PyData) : List (Str × PyData) := ((flds i).zip [a, b, c]).reverse
section
variable {X : Cx} {w0 : Wl} {ss : SS} {R : AV → Prop}
theorem k_isC {cl : Nat → Addr} {w i : Nat} {e : Expr} {x : Str} {p p2 pos : Pos} (T : Ers X.K X.mg cl) (hw : w < 13) (hi : i < 13) (hx : x = nms i) (hg : Gl X "isinstance") (hm : X.mg "isinstance" = none) (hg2 : Gl X x)
    (h : KE X w0 e ss fun a => ∃ ds, a = .err (cl w) ds ∧ R (.dat (.bool (decide (nms i = nms w))))) (hdb : (x == ("__debug__" : Str)) = false := by decide)
    (he : starEach [e, .Name x p2] X.env = (false, eval e X.env) :: starEach [.Name x p2] X.env := by rfl) (hpl : (backTo pos (starEach [.Name x p2] X.env)).any (·.1) = false := by rfl)
    (he2 : starEach [.Name x p2] X.env = (false, eval (.Name x p2) X.env) :: starEach [] X.env := by rfl) : KE X w0 (.Call (.Name "isinstance" p) [e, .Name x p2] [] pos) ss R := by
  have hm2 : X.mg x = some (.ref (cl i)) := by
    rw [hx]
    exact (T i hi).m
  exact k_isE (T w hw).ex hg hm hg2 hm2 ((T w hw).kit (T i hi)) h hdb he hpl he2
theorem k_isB {cl : Nat → Addr} {w : Nat} {T0 : String} {e : Expr} {x : Str} {p p2 pos : Pos} (T : Ers X.K X.mg cl) (hw : w < 13) (hT : PySem.W.kitMeta T0 = true) (hg : Gl X "isinstance") (hm : X.mg "isinstance" = none) (hg2 : Gl X x) (hm2 : X.mg x = none) (hv2 : bootBuiltins x = some (.type T0))
    (h : KE X w0 e ss fun a => ∃ ds, a = .err (cl w) ds ∧ R (.dat (.bool ((tls w).contains (.type T0))))) (hn : x ≠ "__name__" := by decide) (hdb : (x == ("__debug__" : Str)) = false := by decide)
    (he : starEach [e, .Name x p2] X.env = (false, eval e X.env) :: starEach [.Name x p2] X.env := by rfl) (hpl : (backTo pos (starEach [.Name x p2] X.env)).any (·.1) = false := by rfl)
    (he2 : starEach [.Name x p2] X.env = (false, eval (.Name x p2) X.env) :: starEach [] X.env := by rfl) : KE X w0 (.Call (.Name "isinstance" p) [e, .Name x p2] [] pos) ss R :=
  k_isT (T w hw).ex hg hm hg2 hm2 hv2 ((T w hw).kitT hT) h hn hdb he hpl he2
end
/-- the names of the built-in error classes, as the top leaves them -/
structure Ebl (mg : Str → Option Value) : Prop where
  v : mg "ValueError" = none
  i : mg "IndexError" = none
  k : mg "KeyError" = none
  l : mg "LookupError" = none
  o : mg "OverflowError" = none
  r : mg "RuntimeError" = none
theorem bV : bootBuiltins "ValueError" = some (.type "ValueError") := by decide +kernel
theorem bI : bootBuiltins "IndexError" = some (.type "IndexError") := by decide +kernel
theorem bK : bootBuiltins "KeyError" = some (.type "KeyError") := by decide +kernel
theorem bL : bootBuiltins "LookupError" = some (.type "LookupError") := by decide +kernel
theorem bO : bootBuiltins "OverflowError" = some (.type "OverflowError") := by decide +kernel
theorem bR : bootBuiltins "RuntimeError" = some (.type "RuntimeError") := by decide +kernel
def kindsV (w : Nat) : List PyData := (List.range 13).map fun i => .bool (decide (nms i = nms w))
def baseV (w : Nat) : List PyData := (["ValueError", "IndexError", "KeyError", "LookupError", "OverflowError", "RuntimeError"] : List String).map fun T => .bool ((tls w).contains (.type T))
def cKinds (cl : Nat → Addr) : List AV → (AV → Prop) → Prop := fun as R => ∃ (w : Nat) (ds : List (Str × PyData)), as = [.err (cl w) ds] ∧ w < 13 ∧ R (.dat (.list (kindsV w)))
def cBase (cl : Nat → Addr) : List AV → (AV → Prop) → Prop := fun as R => ∃ (w : Nat) (ds : List (Str × PyData)), as = [.err (cl w) ds] ∧ w < 13 ∧ R (.dat (.list (baseV w)))
def cMade (cl : Nat → Addr) : List AV → (AV → Prop) → Prop := fun as R => ∃ (w : Nat) (a b c : PyData), as = [.dat (.int (w : Int)), .dat a, .dat b, .dat c] ∧ w < 13 ∧ R (.err (cl w) (flD w a b c))
section
variable {base : Heap} {K : PySem.W.Frag} {w : World} {P : Program} {mg : Str → Option Value} {cl : Nat → Addr}
abbrev nKinds : List Str := ["_law_error", "_law_found"]
theorem scKinds : FnScope nKinds ["_law_error"] (defScope lKinds) := ⟨rfl, rfl, rfl, by decide +kernel, rfl, by decide +kernel, by decide +kernel⟩
theorem l_kinds (B : Blt mg) (T : Ers K mg cl) (F : Fn0 K mg "_law_kinds" lKinds ["_law_error"]) : Dn P w K mg base "_law_kinds" 1 (cKinds cl) := by
  refine dn F scKinds (fun as R ⟨w, ds, e, _⟩ => by subst e; rfl) fun f cdv A outer s H E w0 as R hr hC => ?_
  obtain ⟨w, ds, rfl, hw, hR⟩ := hC
  show KSs _ _ _ [some (.err (cl w) ds), none] _
  refine ks_cons (ks_set 1 scKinds.nd rfl (.inl rfl) (k_lst ?_))
  refine ka_cons (k_isC (i := 0) T hw (by decide) rfl rfl B.isi rfl (k_var 0 rfl rfl ⟨ds, rfl, ?_⟩))
  refine ka_cons (k_isC (i := 1) T hw (by decide) rfl rfl B.isi rfl (k_var 0 rfl rfl ⟨ds, rfl, ?_⟩))
  refine ka_cons (k_isC (i := 2) T hw (by decide) rfl rfl B.isi rfl (k_var 0 rfl rfl ⟨ds, rfl, ka_nil ⟨Nat.le_of_ble_eq_true rfl, ?_⟩⟩))
  refine ks_cons (ks_set 1 scKinds.nd rfl (.inl rfl) (k_add (k_var 1 rfl rfl (k_lst ?_))))
  refine ka_cons (k_isC (i := 3) T hw (by decide) rfl rfl B.isi rfl (k_var 0 rfl rfl ⟨ds, rfl, ?_⟩))
  refine ka_cons (k_isC (i := 4) T hw (by decide) rfl rfl B.isi rfl (k_var 0 rfl rfl ⟨ds, rfl, ?_⟩))
  refine ka_cons (k_isC (i := 5) T hw (by decide) rfl rfl B.isi rfl (k_var 0 rfl rfl ⟨ds, rfl, ka_nil ⟨Nat.le_of_ble_eq_true rfl, Nat.le_of_ble_eq_true rfl, ?_⟩⟩))
  refine ks_cons (ks_set 1 scKinds.nd rfl (.inl rfl) (k_add (k_var 1 rfl rfl (k_lst ?_))))
  refine ka_cons (k_isC (i := 6) T hw (by decide) rfl rfl B.isi rfl (k_var 0 rfl rfl ⟨ds, rfl, ?_⟩))
  refine ka_cons (k_isC (i := 7) T hw (by decide) rfl rfl B.isi rfl (k_var 0 rfl rfl ⟨ds, rfl, ?_⟩))
  refine ka_cons (k_isC (i := 8) T hw (by decide) rfl rfl B.isi rfl (k_var 0 rfl rfl ⟨ds, rfl, ka_nil ⟨Nat.le_of_ble_eq_true rfl, Nat.le_of_ble_eq_true rfl, ?_⟩⟩))
  refine ks_cons (ks_set 1 scKinds.nd rfl (.inl rfl) (k_add (k_var 1 rfl rfl (k_lst ?_))))
  refine ka_cons (k_isC (i := 9) T hw (by decide) rfl rfl B.isi rfl (k_var 0 rfl rfl ⟨ds, rfl, ?_⟩))
  refine ka_cons (k_isC (i := 10) T hw (by decide) rfl rfl B.isi rfl (k_var 0 rfl rfl ⟨ds, rfl, ?_⟩))
  refine ka_cons (k_isC (i := 11) T hw (by decide) rfl rfl B.isi rfl (k_var 0 rfl rfl ⟨ds, rfl, ka_nil ⟨Nat.le_of_ble_eq_true rfl, Nat.le_of_ble_eq_true rfl, ?_⟩⟩))
  refine ks_one (ks_ret (k_add (k_var 1 rfl rfl (k_lst (ka_cons ?_)))))
  exact k_isC (i := 12) T hw (by decide) rfl rfl B.isi rfl (k_var 0 rfl rfl ⟨ds, rfl, ka_nil ⟨Nat.le_of_ble_eq_true rfl, Nat.le_of_ble_eq_true rfl, hR⟩⟩)
theorem scBase : FnScope nKinds ["_law_error"] (defScope lBase) := ⟨rfl, rfl, rfl, by decide +kernel, rfl, by decide +kernel, by decide +kernel⟩
theorem l_base (B : Blt mg) (V : Ebl mg) (T : Ers K mg cl) (F : Fn0 K mg "_law_base_kinds" lBase ["_law_error"]) : Dn P w K mg base "_law_base_kinds" 1 (cBase cl) := by
  refine dn F scBase (fun as R ⟨w, ds, e, _⟩ => by subst e; rfl) fun f cdv A outer s H E w0 as R hr hC => ?_
  obtain ⟨w, ds, rfl, hw, hR⟩ := hC
  show KSs _ _ _ [some (.err (cl w) ds), none] _
  refine ks_cons (ks_set 1 scBase.nd rfl (.inl rfl) (k_lst ?_))
  refine ka_cons (k_isB T hw (by decide +kernel) rfl B.isi rfl V.v bV (k_var 0 rfl rfl ⟨ds, rfl, ?_⟩))
  refine ka_cons (k_isB T hw (by decide +kernel) rfl B.isi rfl V.i bI (k_var 0 rfl rfl ⟨ds, rfl, ?_⟩))
  refine ka_cons (k_isB T hw (by decide +kernel) rfl B.isi rfl V.k bK (k_var 0 rfl rfl ⟨ds, rfl, ka_nil ⟨Nat.le_of_ble_eq_true rfl, ?_⟩⟩))
  refine ks_one (ks_ret (k_add (k_var 1 rfl rfl (k_lst ?_))))
  refine ka_cons (k_isB T hw (by decide +kernel) rfl B.isi rfl V.l bL (k_var 0 rfl rfl ⟨ds, rfl, ?_⟩))
  refine ka_cons (k_isB T hw (by decide +kernel) rfl B.isi rfl V.o bO (k_var 0 rfl rfl ⟨ds, rfl, ?_⟩))
  exact ka_cons (k_isB T hw (by decide +kernel) rfl B.isi rfl V.r bR (k_var 0 rfl rfl ⟨ds, rfl, ka_nil ⟨Nat.le_of_ble_eq_true rfl, Nat.le_of_ble_eq_true rfl, hR⟩⟩))
end
end K05


namespace K05
open PySem PySem.Spec PyProof.Rows L2 Kp
section
variable {base : Heap} {K : PySem.W.Frag} {w : World} {P : Program} {mg : Str → Option Value} {cl : Nat → Addr}
abbrev nMade : List Str := ["_law_which", "_law_one", "_law_two", "_law_three"]
theorem scMade : FnScope nMade nMade (defScope lMade) := ⟨rfl, rfl, rfl, by decide +kernel, rfl, by decide +kernel, by decide +kernel⟩
theorem l_made (T : Ers K mg cl) (F : Fn0 K mg "_law_made" lMade nMade) : Dn P w K mg base "_law_made" 3 (cMade cl) := by
  refine dn F scMade (fun as R ⟨w, a, b, c, e, _⟩ => by subst e; rfl) fun f cdv A outer s H E w0 as R hr hC => ?_
  obtain ⟨v, a, b, c, rfl, hw, hR⟩ := hC
  have hr2 : Room (1 + 1) _ := hr
  show KSs _ _ _ [some (.dat (.int (v : Int))), some (.dat a), some (.dat b), some (.dat c)] _
  obtain ⟨B0, p0, q0, ox0⟩ := (T 0 (by decide)).ox
  obtain ⟨fI0, fd0, iC0, tI0, F0, hb0⟩ := in0 (P := P) (w := w) (base := base) T
  obtain ⟨B1, p1, q1, ox1⟩ := (T 1 (by decide)).ox
  obtain ⟨fI1, fd1, iC1, tI1, F1, hb1⟩ := in1 (P := P) (w := w) (base := base) T
  obtain ⟨B2, p2, q2, ox2⟩ := (T 2 (by decide)).ox
  obtain ⟨fI2, fd2, iC2, tI2, F2, hb2⟩ := in2 (P := P) (w := w) (base := base) T
  obtain ⟨B3, p3, q3, ox3⟩ := (T 3 (by decide)).ox
  obtain ⟨fI3, fd3, iC3, tI3, F3, hb3⟩ := in3 (P := P) (w := w) (base := base) T
  obtain ⟨B4, p4, q4, ox4⟩ := (T 4 (by decide)).ox
  obtain ⟨fI4, fd4, iC4, tI4, F4, hb4⟩ := in4 (P := P) (w := w) (base := base) T
  obtain ⟨B5, p5, q5, ox5⟩ := (T 5 (by decide)).ox
  obtain ⟨fI5, fd5, iC5, tI5, F5, hb5⟩ := in5 (P := P) (w := w) (base := base) T
  obtain ⟨B6, p6, q6, ox6⟩ := (T 6 (by decide)).ox
  obtain ⟨fI6, fd6, iC6, tI6, F6, hb6⟩ := in6 (P := P) (w := w) (base := base) T
  obtain ⟨B7, p7, q7, ox7⟩ := (T 7 (by decide)).ox
  obtain ⟨fI7, fd7, iC7, tI7, F7, hb7⟩ := in7 (P := P) (w := w) (base := base) T
  obtain ⟨B8, p8, q8, ox8⟩ := (T 8 (by decide)).ox
  obtain ⟨fI8, fd8, iC8, tI8, F8, hb8⟩ := in8 (P := P) (w := w) (base := base) T
  obtain ⟨B9, p9, q9, ox9⟩ := (T 9 (by decide)).ox
  obtain ⟨fI9, fd9, iC9, tI9, F9, hb9⟩ := in9 (P := P) (w := w) (base := base) T
  obtain ⟨B10, p10, q10, ox10⟩ := (T 10 (by decide)).ox
  obtain ⟨fI10, fd10, iC10, tI10, F10, hb10⟩ := in10 (P := P) (w := w) (base := base) T
  obtain ⟨B11, p11, q11, ox11⟩ := (T 11 (by decide)).ox
  obtain ⟨fI11, fd11, iC11, tI11, F11, hb11⟩ := in11 (P := P) (w := w) (base := base) T
  obtain ⟨B12, p12, q12, ox12⟩ := (T 12 (by decide)).ox
  obtain ⟨fI12, fd12, iC12, tI12, F12, hb12⟩ := in12 (P := P) (w := w) (base := base) T
  refine ks_cons (ks_if (kt_cm dc_lt (k_var 0 rfl rfl (k_int (iteD (fun h1 => ?_) (fun h1 => ?_))))))
  · have h1 : v < 6 := by omega
    refine ks_one (ks_ret (k_pickE (fun _ _ => rfl) ?_))
    refine ka_cons (k_mkE (ns := ["part", "hand", "number"]) ox0 iC0 tI0 F0 hr2 hb0 rfl (T 0 (by decide)).m (ka_cons (k_var 1 rfl rfl (ka_cons (k_var 2 rfl rfl (ka_cons (k_var 3 rfl rfl (ka_nil ⟨rfl, Nat.le_of_ble_eq_true rfl, ?_⟩))))))))
    refine ka_cons (k_mkE (ns := ["row"]) ox1 iC1 tI1 F1 hr2 hb1 rfl (T 1 (by decide)).m (ka_cons (k_var 1 rfl rfl (ka_nil ⟨rfl, Nat.le_of_ble_eq_true rfl, ?_⟩))))
    refine ka_cons (k_mkE (ns := ["rule"]) ox2 iC2 tI2 F2 hr2 hb2 rfl (T 2 (by decide)).m (ka_cons (k_var 1 rfl rfl (ka_nil ⟨rfl, Nat.le_of_ble_eq_true rfl, ?_⟩))))
    refine ka_cons (k_mkE (ns := ["which"]) ox3 iC3 tI3 F3 hr2 hb3 rfl (T 3 (by decide)).m (ka_cons (k_var 1 rfl rfl (ka_nil ⟨rfl, Nat.le_of_ble_eq_true rfl, ?_⟩))))
    refine ka_cons (k_mkE0 ox4 iC4 tI4 F4 hr2 hb4 rfl (T 4 (by decide)).m ?_)
    refine ka_cons (k_mkE0 ox5 iC5 tI5 F5 hr2 hb5 rfl (T 5 (by decide)).m ?_)
    refine ka_nil ⟨Nat.le_of_ble_eq_true rfl, ?_⟩
    refine k_var 0 rfl rfl ⟨(v : Int), .err (cl v) (flD v a b c), rfl, ?_, hR⟩
    match v, h1 with
    | 0, _ => rfl
    | 1, _ => rfl
    | 2, _ => rfl
    | 3, _ => rfl
    | 4, _ => rfl
    | 5, _ => rfl
  · refine ks_nil (ks_cons (ks_if (kt_cm dc_lt (k_var 0 rfl rfl (k_int (iteD (fun h2 => ?_) (fun h2 => ?_)))))))
    · have h2 : 6 ≤ v ∧ v < 11 := by omega
      refine ks_one (ks_ret (k_pickE (fun _ _ => rfl) ?_))
      refine ka_cons (k_mkE (ns := ["hand"]) ox6 iC6 tI6 F6 hr2 hb6 rfl (T 6 (by decide)).m (ka_cons (k_var 1 rfl rfl (ka_nil ⟨rfl, Nat.le_of_ble_eq_true rfl, ?_⟩))))
      refine ka_cons (k_mkE (ns := ["number"]) ox7 iC7 tI7 F7 hr2 hb7 rfl (T 7 (by decide)).m (ka_cons (k_var 1 rfl rfl (ka_nil ⟨rfl, Nat.le_of_ble_eq_true rfl, ?_⟩))))
      refine ka_cons (k_mkE (ns := ["number"]) ox8 iC8 tI8 F8 hr2 hb8 rfl (T 8 (by decide)).m (ka_cons (k_var 1 rfl rfl (ka_nil ⟨rfl, Nat.le_of_ble_eq_true rfl, ?_⟩))))
      refine ka_cons (k_mkE (ns := ["hand"]) ox9 iC9 tI9 F9 hr2 hb9 rfl (T 9 (by decide)).m (ka_cons (k_var 1 rfl rfl (ka_nil ⟨rfl, Nat.le_of_ble_eq_true rfl, ?_⟩))))
      refine ka_cons (k_mkE (ns := ["name"]) ox10 iC10 tI10 F10 hr2 hb10 rfl (T 10 (by decide)).m (ka_cons (k_var 1 rfl rfl (ka_nil ⟨rfl, Nat.le_of_ble_eq_true rfl, ?_⟩))))
      refine ka_nil ⟨Nat.le_of_ble_eq_true rfl, ?_⟩
      refine k_sub (k_var 0 rfl rfl (k_int ⟨(v : Int) - 6, .err (cl v) (flD v a b c), rfl, ?_, hR⟩))
      match v, h2 with
      | 6, _ => rfl
      | 7, _ => rfl
      | 8, _ => rfl
      | 9, _ => rfl
      | 10, _ => rfl
    · refine ks_nil ?_
      have h2 : 11 ≤ v ∧ v < 13 := by omega
      refine ks_one (ks_ret (k_pickE (fun _ _ => rfl) ?_))
      refine ka_cons (k_mkE (ns := ["many"]) ox11 iC11 tI11 F11 hr2 hb11 rfl (T 11 (by decide)).m (ka_cons (k_var 1 rfl rfl (ka_nil ⟨rfl, Nat.le_of_ble_eq_true rfl, ?_⟩))))
      refine ka_cons (k_mkE0 ox12 iC12 tI12 F12 hr2 hb12 rfl (T 12 (by decide)).m ?_)
      refine ka_nil ⟨Nat.le_of_ble_eq_true rfl, ?_⟩
      refine k_sub (k_var 0 rfl rfl (k_int ⟨(v : Int) - 11, .err (cl v) (flD v a b c), rfl, ?_, hR⟩))
      match v, h2 with
      | 11, _ => rfl
      | 12, _ => rfl
def one (w : Nat) : Bool := match flds w with
  | [_] => true
  | _ => false
def cField (cl : Nat → Addr) : List AV → (AV → Prop) → Prop := fun as R => ∃ (w : Nat) (a b c : PyData), as = [.dat (.int (w : Int)), .err (cl w) (flD w a b c)] ∧ w < 13 ∧ one w = true ∧ R (.dat a)
abbrev nField : List Str := ["_law_which", "_law_error"]
theorem scField : FnScope nField nField (defScope lField) := ⟨rfl, rfl, rfl, by decide +kernel, rfl, by decide +kernel, by decide +kernel⟩
theorem l_field (T : Ers K mg cl) (F : Fn0 K mg "_law_field" lField nField) : Dn P w K mg base "_law_field" 1 (cField cl) := by
  refine dn F scField (fun as R ⟨w, a, b, c, e, _⟩ => by subst e; rfl) fun f cdv A outer s H E w0 as R hr hC => ?_
  obtain ⟨v, a, b, c, rfl, hw, ho, hR⟩ := hC
  show KSs _ _ _ [some (.dat (.int (v : Int))), some (.err (cl v) (flD v a b c))] _
  have fld : ∀ (i : Nat) (n : Str), i < 13 → n ∈ flds i → PySem.W.findIn K (.ref (cl i)) n = some none := fun i n hi hn => (T i hi).no n hn
  match v, hw, ho with
  | 0, _, ho => cases ho
  | 1, _, _ =>
    refine ks_cons (ks_if (kt_cm dc_lt (k_var 0 rfl rfl (k_int (iteD (fun _ => ?_) (fun h => absurd (by decide) h))))))
    exact ks_one (ks_ret (k_ifE (kt_cm dc_seq (k_var 0 rfl rfl (k_int (iteD (fun _ => k_errf (T 1 (by decide)).xf (fld 1 _ (by decide) List.mem_cons_self) (k_var 1 rfl rfl ⟨_, _, rfl, rfl, hR⟩)) (fun h => absurd (by decide) h)))))))
  | 2, _, _ =>
    refine ks_cons (ks_if (kt_cm dc_lt (k_var 0 rfl rfl (k_int (iteD (fun _ => ?_) (fun h => absurd (by decide) h))))))
    exact ks_one (ks_ret (k_ifE (kt_cm dc_seq (k_var 0 rfl rfl (k_int (iteD (fun h => absurd h (by decide)) (fun _ => k_ifE (kt_cm dc_seq (k_var 0 rfl rfl (k_int (iteD (fun _ => k_errf (T 2 (by decide)).xf (fld 2 _ (by decide) List.mem_cons_self) (k_var 1 rfl rfl ⟨_, _, rfl, rfl, hR⟩)) (fun h => absurd (by decide) h))))))))))))
  | 3, _, _ =>
    refine ks_cons (ks_if (kt_cm dc_lt (k_var 0 rfl rfl (k_int (iteD (fun _ => ?_) (fun h => absurd (by decide) h))))))
    exact ks_one (ks_ret (k_ifE (kt_cm dc_seq (k_var 0 rfl rfl (k_int (iteD (fun h => absurd h (by decide)) (fun _ => k_ifE (kt_cm dc_seq (k_var 0 rfl rfl (k_int (iteD (fun h => absurd h (by decide)) (fun _ => k_errf (T 3 (by decide)).xf (fld 3 _ (by decide) List.mem_cons_self) (k_var 1 rfl rfl ⟨_, _, rfl, rfl, hR⟩)))))))))))))
  | 4, _, ho => cases ho
  | 5, _, ho => cases ho
  | 6, _, _ =>
    refine ks_cons (ks_if (kt_cm dc_lt (k_var 0 rfl rfl (k_int (iteD (fun h => absurd h (by decide)) (fun _ => ?_))))))
    refine ks_nil (ks_cons (ks_if (kt_cm dc_in (k_var 0 rfl rfl (k_tup (ka_cons (k_int (ka_cons (k_int (ka_nil ⟨Nat.le_of_ble_eq_true rfl, _, _, rfl, rfl, ?_⟩))))))))))
    exact ks_one (ks_ret (k_errf (T 6 (by decide)).xf (fld 6 _ (by decide) List.mem_cons_self) (k_var 1 rfl rfl ⟨_, _, rfl, rfl, hR⟩)))
  | 7, _, _ =>
    refine ks_cons (ks_if (kt_cm dc_lt (k_var 0 rfl rfl (k_int (iteD (fun h => absurd h (by decide)) (fun _ => ?_))))))
    refine ks_nil (ks_cons (ks_if (kt_cm dc_in (k_var 0 rfl rfl (k_tup (ka_cons (k_int (ka_cons (k_int (ka_nil ⟨Nat.le_of_ble_eq_true rfl, _, _, rfl, rfl, ?_⟩))))))))))
    refine ks_nil (ks_cons (ks_if (kt_cm dc_in (k_var 0 rfl rfl (k_tup (ka_cons (k_int (ka_cons (k_int (ka_nil ⟨Nat.le_of_ble_eq_true rfl, _, _, rfl, rfl, ?_⟩))))))))))
    exact ks_one (ks_ret (k_errf (T 7 (by decide)).xf (fld 7 _ (by decide) List.mem_cons_self) (k_var 1 rfl rfl ⟨_, _, rfl, rfl, hR⟩)))
  | 8, _, _ =>
    refine ks_cons (ks_if (kt_cm dc_lt (k_var 0 rfl rfl (k_int (iteD (fun h => absurd h (by decide)) (fun _ => ?_))))))
    refine ks_nil (ks_cons (ks_if (kt_cm dc_in (k_var 0 rfl rfl (k_tup (ka_cons (k_int (ka_cons (k_int (ka_nil ⟨Nat.le_of_ble_eq_true rfl, _, _, rfl, rfl, ?_⟩))))))))))
    refine ks_nil (ks_cons (ks_if (kt_cm dc_in (k_var 0 rfl rfl (k_tup (ka_cons (k_int (ka_cons (k_int (ka_nil ⟨Nat.le_of_ble_eq_true rfl, _, _, rfl, rfl, ?_⟩))))))))))
    exact ks_one (ks_ret (k_errf (T 8 (by decide)).xf (fld 8 _ (by decide) List.mem_cons_self) (k_var 1 rfl rfl ⟨_, _, rfl, rfl, hR⟩)))
  | 9, _, _ =>
    refine ks_cons (ks_if (kt_cm dc_lt (k_var 0 rfl rfl (k_int (iteD (fun h => absurd h (by decide)) (fun _ => ?_))))))
    refine ks_nil (ks_cons (ks_if (kt_cm dc_in (k_var 0 rfl rfl (k_tup (ka_cons (k_int (ka_cons (k_int (ka_nil ⟨Nat.le_of_ble_eq_true rfl, _, _, rfl, rfl, ?_⟩))))))))))
    exact ks_one (ks_ret (k_errf (T 9 (by decide)).xf (fld 9 _ (by decide) List.mem_cons_self) (k_var 1 rfl rfl ⟨_, _, rfl, rfl, hR⟩)))
  | 10, _, _ =>
    refine ks_cons (ks_if (kt_cm dc_lt (k_var 0 rfl rfl (k_int (iteD (fun h => absurd h (by decide)) (fun _ => ?_))))))
    refine ks_nil (ks_cons (ks_if (kt_cm dc_in (k_var 0 rfl rfl (k_tup (ka_cons (k_int (ka_cons (k_int (ka_nil ⟨Nat.le_of_ble_eq_true rfl, _, _, rfl, rfl, ?_⟩))))))))))
    refine ks_nil (ks_cons (ks_if (kt_cm dc_in (k_var 0 rfl rfl (k_tup (ka_cons (k_int (ka_cons (k_int (ka_nil ⟨Nat.le_of_ble_eq_true rfl, _, _, rfl, rfl, ?_⟩))))))))))
    exact ks_nil (ks_one (ks_ret (k_ifE (kt_cm dc_seq (k_var 0 rfl rfl (k_int (iteD (fun _ => k_errf (T 10 (by decide)).xf (fld 10 _ (by decide) List.mem_cons_self) (k_var 1 rfl rfl ⟨_, _, rfl, rfl, hR⟩)) (fun h => absurd (by decide) h))))))))
  | 11, _, _ =>
    refine ks_cons (ks_if (kt_cm dc_lt (k_var 0 rfl rfl (k_int (iteD (fun h => absurd h (by decide)) (fun _ => ?_))))))
    refine ks_nil (ks_cons (ks_if (kt_cm dc_in (k_var 0 rfl rfl (k_tup (ka_cons (k_int (ka_cons (k_int (ka_nil ⟨Nat.le_of_ble_eq_true rfl, _, _, rfl, rfl, ?_⟩))))))))))
    refine ks_nil (ks_cons (ks_if (kt_cm dc_in (k_var 0 rfl rfl (k_tup (ka_cons (k_int (ka_cons (k_int (ka_nil ⟨Nat.le_of_ble_eq_true rfl, _, _, rfl, rfl, ?_⟩))))))))))
    exact ks_nil (ks_one (ks_ret (k_ifE (kt_cm dc_seq (k_var 0 rfl rfl (k_int (iteD (fun h => absurd h (by decide)) (fun _ => k_errf (T 11 (by decide)).xf (fld 11 _ (by decide) List.mem_cons_self) (k_var 1 rfl rfl ⟨_, _, rfl, rfl, hR⟩)))))))))
  | 12, _, ho => cases ho
  | n + 13, hw, _ => exact absurd hw (by omega)
/-- the values of the w-th error -/
def dueV (w : Nat) (a b c : PyData) : List PyData := [a, b, c].take (flds w).length
def cFields (cl : Nat → Addr) : List AV → (AV → Prop) → Prop := fun as R => ∃ (w : Nat) (a b c : PyData), as = [.dat (.int (w : Int)), .err (cl w) (flD w a b c)] ∧ w < 13 ∧ R (.dat (.list (dueV w a b c)))
theorem scFields : FnScope nField nField (defScope lFields) := ⟨rfl, rfl, rfl, by decide +kernel, rfl, by decide +kernel, by decide +kernel⟩
theorem l_fields (T : Ers K mg cl) (D : Dn P w K mg base "_law_field" 1 (cField cl)) (F : Fn0 K mg "_law_fields" lFields nField) : Dn P w K mg base "_law_fields" 2 (cFields cl) := by
  refine dn F scFields (fun as R ⟨w, a, b, c, e, _⟩ => by subst e; rfl) fun f cdv A outer s H E w0 as R hr hC => ?_
  obtain ⟨v, a, b, c, rfl, hw, hR⟩ := hC
  show KSs _ _ _ [some (.dat (.int (v : Int))), some (.err (cl v) (flD v a b c))] _
  have fld : ∀ (i : Nat) (n : Str), i < 13 → n ∈ flds i → PySem.W.findIn K (.ref (cl i)) n = some none := fun i n hi hn => (T i hi).no n hn
  match v, hw with
  | 0, _ =>
    refine ks_cons (ks_if (kt_cm dc_seq (k_var 0 rfl rfl (k_int (iteD (fun _ => ?_) (fun h => absurd (by decide) h))))))
    refine ks_one (ks_ret (k_lst ?_))
    refine ka_cons (k_errf (T 0 (by decide)).xf (fld 0 _ (by decide) List.mem_cons_self) (k_var 1 rfl rfl ⟨_, _, rfl, rfl, ?_⟩))
    refine ka_cons (k_errf (T 0 (by decide)).xf (fld 0 _ (by decide) (List.mem_cons_of_mem _ List.mem_cons_self)) (k_var 1 rfl rfl ⟨_, _, rfl, rfl, ?_⟩))
    exact ka_cons (k_errf (T 0 (by decide)).xf (fld 0 _ (by decide) (List.mem_cons_of_mem _ (List.mem_cons_of_mem _ List.mem_cons_self))) (k_var 1 rfl rfl ⟨_, _, rfl, rfl, ka_nil ⟨Nat.le_of_ble_eq_true rfl, hR⟩⟩))
  | 1, _ =>
    refine ks_cons (ks_if (kt_cm dc_seq (k_var 0 rfl rfl (k_int (iteD (fun h => absurd h (by decide)) (fun _ => ?_))))))
    refine ks_nil (ks_cons (ks_if (kt_cm dc_in (k_var 0 rfl rfl (k_tup (ka_cons (k_int (ka_cons (k_int (ka_cons (k_int (ka_nil ⟨Nat.le_of_ble_eq_true rfl, _, _, rfl, rfl, ?_⟩))))))))))))
    exact ks_nil (ks_one (ks_ret (k_lst (ka_cons (k_cd D hr (by decide) rfl (ka_cons (k_var 0 rfl rfl (ka_cons (k_var 1 rfl rfl (ka_nil ⟨rfl, 1, a, b, c, rfl, by decide, rfl, ka_nil ⟨Nat.le_of_ble_eq_true rfl, hR⟩⟩))))))))))
  | 2, _ =>
    refine ks_cons (ks_if (kt_cm dc_seq (k_var 0 rfl rfl (k_int (iteD (fun h => absurd h (by decide)) (fun _ => ?_))))))
    refine ks_nil (ks_cons (ks_if (kt_cm dc_in (k_var 0 rfl rfl (k_tup (ka_cons (k_int (ka_cons (k_int (ka_cons (k_int (ka_nil ⟨Nat.le_of_ble_eq_true rfl, _, _, rfl, rfl, ?_⟩))))))))))))
    exact ks_nil (ks_one (ks_ret (k_lst (ka_cons (k_cd D hr (by decide) rfl (ka_cons (k_var 0 rfl rfl (ka_cons (k_var 1 rfl rfl (ka_nil ⟨rfl, 2, a, b, c, rfl, by decide, rfl, ka_nil ⟨Nat.le_of_ble_eq_true rfl, hR⟩⟩))))))))))
  | 3, _ =>
    refine ks_cons (ks_if (kt_cm dc_seq (k_var 0 rfl rfl (k_int (iteD (fun h => absurd h (by decide)) (fun _ => ?_))))))
    refine ks_nil (ks_cons (ks_if (kt_cm dc_in (k_var 0 rfl rfl (k_tup (ka_cons (k_int (ka_cons (k_int (ka_cons (k_int (ka_nil ⟨Nat.le_of_ble_eq_true rfl, _, _, rfl, rfl, ?_⟩))))))))))))
    exact ks_nil (ks_one (ks_ret (k_lst (ka_cons (k_cd D hr (by decide) rfl (ka_cons (k_var 0 rfl rfl (ka_cons (k_var 1 rfl rfl (ka_nil ⟨rfl, 3, a, b, c, rfl, by decide, rfl, ka_nil ⟨Nat.le_of_ble_eq_true rfl, hR⟩⟩))))))))))
  | 4, _ =>
    refine ks_cons (ks_if (kt_cm dc_seq (k_var 0 rfl rfl (k_int (iteD (fun h => absurd h (by decide)) (fun _ => ?_))))))
    refine ks_nil (ks_cons (ks_if (kt_cm dc_in (k_var 0 rfl rfl (k_tup (ka_cons (k_int (ka_cons (k_int (ka_cons (k_int (ka_nil ⟨Nat.le_of_ble_eq_true rfl, _, _, rfl, rfl, ?_⟩))))))))))))
    exact ks_one (ks_ret (k_lst (ka_nil ⟨Nat.le_of_ble_eq_true rfl, hR⟩)))
  | 5, _ =>
    refine ks_cons (ks_if (kt_cm dc_seq (k_var 0 rfl rfl (k_int (iteD (fun h => absurd h (by decide)) (fun _ => ?_))))))
    refine ks_nil (ks_cons (ks_if (kt_cm dc_in (k_var 0 rfl rfl (k_tup (ka_cons (k_int (ka_cons (k_int (ka_cons (k_int (ka_nil ⟨Nat.le_of_ble_eq_true rfl, _, _, rfl, rfl, ?_⟩))))))))))))
    exact ks_one (ks_ret (k_lst (ka_nil ⟨Nat.le_of_ble_eq_true rfl, hR⟩)))
  | 6, _ =>
    refine ks_cons (ks_if (kt_cm dc_seq (k_var 0 rfl rfl (k_int (iteD (fun h => absurd h (by decide)) (fun _ => ?_))))))
    refine ks_nil (ks_cons (ks_if (kt_cm dc_in (k_var 0 rfl rfl (k_tup (ka_cons (k_int (ka_cons (k_int (ka_cons (k_int (ka_nil ⟨Nat.le_of_ble_eq_true rfl, _, _, rfl, rfl, ?_⟩))))))))))))
    exact ks_nil (ks_one (ks_ret (k_lst (ka_cons (k_cd D hr (by decide) rfl (ka_cons (k_var 0 rfl rfl (ka_cons (k_var 1 rfl rfl (ka_nil ⟨rfl, 6, a, b, c, rfl, by decide, rfl, ka_nil ⟨Nat.le_of_ble_eq_true rfl, hR⟩⟩))))))))))
  | 7, _ =>
    refine ks_cons (ks_if (kt_cm dc_seq (k_var 0 rfl rfl (k_int (iteD (fun h => absurd h (by decide)) (fun _ => ?_))))))
    refine ks_nil (ks_cons (ks_if (kt_cm dc_in (k_var 0 rfl rfl (k_tup (ka_cons (k_int (ka_cons (k_int (ka_cons (k_int (ka_nil ⟨Nat.le_of_ble_eq_true rfl, _, _, rfl, rfl, ?_⟩))))))))))))
    exact ks_nil (ks_one (ks_ret (k_lst (ka_cons (k_cd D hr (by decide) rfl (ka_cons (k_var 0 rfl rfl (ka_cons (k_var 1 rfl rfl (ka_nil ⟨rfl, 7, a, b, c, rfl, by decide, rfl, ka_nil ⟨Nat.le_of_ble_eq_true rfl, hR⟩⟩))))))))))
  | 8, _ =>
    refine ks_cons (ks_if (kt_cm dc_seq (k_var 0 rfl rfl (k_int (iteD (fun h => absurd h (by decide)) (fun _ => ?_))))))
    refine ks_nil (ks_cons (ks_if (kt_cm dc_in (k_var 0 rfl rfl (k_tup (ka_cons (k_int (ka_cons (k_int (ka_cons (k_int (ka_nil ⟨Nat.le_of_ble_eq_true rfl, _, _, rfl, rfl, ?_⟩))))))))))))
    exact ks_nil (ks_one (ks_ret (k_lst (ka_cons (k_cd D hr (by decide) rfl (ka_cons (k_var 0 rfl rfl (ka_cons (k_var 1 rfl rfl (ka_nil ⟨rfl, 8, a, b, c, rfl, by decide, rfl, ka_nil ⟨Nat.le_of_ble_eq_true rfl, hR⟩⟩))))))))))
  | 9, _ =>
    refine ks_cons (ks_if (kt_cm dc_seq (k_var 0 rfl rfl (k_int (iteD (fun h => absurd h (by decide)) (fun _ => ?_))))))
    refine ks_nil (ks_cons (ks_if (kt_cm dc_in (k_var 0 rfl rfl (k_tup (ka_cons (k_int (ka_cons (k_int (ka_cons (k_int (ka_nil ⟨Nat.le_of_ble_eq_true rfl, _, _, rfl, rfl, ?_⟩))))))))))))
    exact ks_nil (ks_one (ks_ret (k_lst (ka_cons (k_cd D hr (by decide) rfl (ka_cons (k_var 0 rfl rfl (ka_cons (k_var 1 rfl rfl (ka_nil ⟨rfl, 9, a, b, c, rfl, by decide, rfl, ka_nil ⟨Nat.le_of_ble_eq_true rfl, hR⟩⟩))))))))))
  | 10, _ =>
    refine ks_cons (ks_if (kt_cm dc_seq (k_var 0 rfl rfl (k_int (iteD (fun h => absurd h (by decide)) (fun _ => ?_))))))
    refine ks_nil (ks_cons (ks_if (kt_cm dc_in (k_var 0 rfl rfl (k_tup (ka_cons (k_int (ka_cons (k_int (ka_cons (k_int (ka_nil ⟨Nat.le_of_ble_eq_true rfl, _, _, rfl, rfl, ?_⟩))))))))))))
    exact ks_nil (ks_one (ks_ret (k_lst (ka_cons (k_cd D hr (by decide) rfl (ka_cons (k_var 0 rfl rfl (ka_cons (k_var 1 rfl rfl (ka_nil ⟨rfl, 10, a, b, c, rfl, by decide, rfl, ka_nil ⟨Nat.le_of_ble_eq_true rfl, hR⟩⟩))))))))))
  | 11, _ =>
    refine ks_cons (ks_if (kt_cm dc_seq (k_var 0 rfl rfl (k_int (iteD (fun h => absurd h (by decide)) (fun _ => ?_))))))
    refine ks_nil (ks_cons (ks_if (kt_cm dc_in (k_var 0 rfl rfl (k_tup (ka_cons (k_int (ka_cons (k_int (ka_cons (k_int (ka_nil ⟨Nat.le_of_ble_eq_true rfl, _, _, rfl, rfl, ?_⟩))))))))))))
    exact ks_nil (ks_one (ks_ret (k_lst (ka_cons (k_cd D hr (by decide) rfl (ka_cons (k_var 0 rfl rfl (ka_cons (k_var 1 rfl rfl (ka_nil ⟨rfl, 11, a, b, c, rfl, by decide, rfl, ka_nil ⟨Nat.le_of_ble_eq_true rfl, hR⟩⟩))))))))))
  | 12, _ =>
    refine ks_cons (ks_if (kt_cm dc_seq (k_var 0 rfl rfl (k_int (iteD (fun h => absurd h (by decide)) (fun _ => ?_))))))
    refine ks_nil (ks_cons (ks_if (kt_cm dc_in (k_var 0 rfl rfl (k_tup (ka_cons (k_int (ka_cons (k_int (ka_cons (k_int (ka_nil ⟨Nat.le_of_ble_eq_true rfl, _, _, rfl, rfl, ?_⟩))))))))))))
    exact ks_one (ks_ret (k_lst (ka_nil ⟨Nat.le_of_ble_eq_true rfl, hR⟩)))
  | n + 13, hw => exact absurd hw (by omega)
end
end K05


namespace K05
open PySem PySem.Spec PyProof.Rows L2 Kp
section
variable {X : Cx} {w0 : Wl} {ss : SS} {R : AV → Prop}
theorem k_neg {i : Int} {j : Nat} {p pos : Pos} (hR : R (.dat (.int (-i)))) : KE X w0 (.UnaryOp .USub (.Constant (.int i) j p) pos) ss R :=
  PE.imp (pe_un un_neg pe_int) fun σ H Q ⟨w, ew, hs, q⟩ => by
    subst ew
    exact ⟨i, rfl, q _ (.dat (.int (-i))) w (Le.refl w) (.int _) hR⟩
end
abbrev somes : Nat → List Int
  | 6 => [1, 3]
  | 7 => [1, 3]
  | 8 => [1, 3]
  | 9 => [3]
  | 10 => [3]
  | 11 => [4]
  | 12 => [5]
  | _ => [0]
theorem flatDs_ints : ∀ ns : List Int, flatDs (ns.map .int) = some (ns.map V.int)
  | [] => rfl
  | n :: ns => by
    show (match flatD (.int n), flatDs (ns.map .int) with | some v, some vs => some (v :: vs) | _, _ => none) = _
    rw [flatDs_ints ns]
    rfl
theorem rangeD_at {lo : Int} {n i : Nat} {d : PyData} (h : (rangeD lo n)[i]? = some d) : i < n ∧ d = .int (lo + (i : Int)) := by
  unfold rangeD at h
  rw [List.getElem?_map] at h
  cases q : (List.range n)[i]? with
  | none => rw [q] at h; cases h
  | some j =>
    rw [q] at h
    have hi : i < n := by
      have := (List.getElem?_eq_some_iff.mp q).1
      simpa using this
    rw [List.getElem?_range hi] at q
    cases q
    exact ⟨hi, (Option.some.inj h).symm⟩
def dueK (w : Nat) : List PyData := (List.range 6).map fun (i : Nat) => .bool (inV (.int (0 + (i : Int))) ((somes w).map V.int))
def cDue : List AV → (AV → Prop) → Prop := fun as R => ∃ w : Nat, as = [.dat (.int (w : Int))] ∧ w < 13 ∧ R (.dat (.list (dueK w)))
def cVal : List AV → (AV → Prop) → Prop := fun as R => as = [.pool] ∧ ∀ d, sm 1 d = true → R (.dat d)
section
variable {base : Heap} {K : PySem.W.Frag} {w : World} {P : Program} {mg : Str → Option Value} {cl : Nat → Addr}
abbrev nDue : List Str := ["_law_which", "_law_some", "_law_number"]
theorem scDue : FnScope nDue ["_law_which"] (defScope lDue) := ⟨rfl, rfl, rfl, by decide +kernel, rfl, by decide +kernel, by decide +kernel⟩
theorem l_due (B : Blt mg) (F : Fn0 K mg "_law_due_kinds" lDue ["_law_which"]) : Dn P w K mg base "_law_due_kinds" 1 cDue := by
  refine dn F scDue (fun as R ⟨w, e, _⟩ => by subst e; rfl) fun f cdv A outer s H E w0 as R hr hC => ?_
  obtain ⟨v, rfl, hw, hR⟩ := hC
  show KSs _ _ _ [some (.dat (.int (v : Int))), none, none] _
  refine ks_cons (ks_set 1 scDue.nd rfl (.inr rfl) (k_idx (fun _ _ => rfl) (k_lst ?_)))
  refine ka_cons (k_lst (ka_cons (k_int (ka_nil ⟨Nat.le_of_ble_eq_true rfl, ?_⟩))))
  refine ka_cons (k_lst (ka_cons (k_int (ka_nil ⟨Nat.le_of_ble_eq_true rfl, ?_⟩))))
  refine ka_cons (k_lst (ka_cons (k_int (ka_nil ⟨Nat.le_of_ble_eq_true rfl, ?_⟩))))
  refine ka_cons (k_lst (ka_cons (k_int (ka_nil ⟨Nat.le_of_ble_eq_true rfl, ?_⟩))))
  refine ka_cons (k_lst (ka_cons (k_int (ka_nil ⟨Nat.le_of_ble_eq_true rfl, ?_⟩))))
  refine ka_cons (k_lst (ka_cons (k_int (ka_nil ⟨Nat.le_of_ble_eq_true rfl, ?_⟩))))
  refine ka_cons (k_lst (ka_cons (k_int (ka_cons (k_int (ka_nil ⟨Nat.le_of_ble_eq_true rfl, ?_⟩))))))
  refine ka_cons (k_lst (ka_cons (k_int (ka_cons (k_int (ka_nil ⟨Nat.le_of_ble_eq_true rfl, ?_⟩))))))
  refine ka_cons (k_lst (ka_cons (k_int (ka_cons (k_int (ka_nil ⟨Nat.le_of_ble_eq_true rfl, ?_⟩))))))
  refine ka_cons (k_lst (ka_cons (k_int (ka_nil ⟨Nat.le_of_ble_eq_true rfl, ?_⟩))))
  refine ka_cons (k_lst (ka_cons (k_int (ka_nil ⟨Nat.le_of_ble_eq_true rfl, ?_⟩))))
  refine ka_cons (k_lst (ka_cons (k_int (ka_nil ⟨Nat.le_of_ble_eq_true rfl, ?_⟩))))
  refine ka_cons (k_lst (ka_cons (k_int (ka_nil ⟨Nat.le_of_ble_eq_true rfl, ?_⟩))))
  refine ka_nil ⟨Nat.le_of_ble_eq_true rfl, k_var 0 rfl rfl ?_⟩
  show ∃ d, atI ((List.range 13).map fun i => PyData.list ((somes i).map .int)) (v : Int) = some d ∧ _
  refine ⟨.list ((somes v).map .int), atI_nat ?_, ?_⟩
  · rw [List.getElem?_map, List.getElem?_range hw]
    rfl
  show KSs _ _ _ [some (.dat (.int (v : Int))), some (.dat (.list ((somes v).map .int))), none] _
  refine ks_one (ks_ret (k_ofN ?_))
  refine kn_lc (own := [("_law_number", 2)]) (g := gName 2) rfl scDue.nd (blkOk_by (N := nDue) (sc := defScope lDue) (by decide +kernel)) (tgok1 2) (fun _ _ _ _ _ => pg_name (i := 2) scDue.nd rfl (Or.inl rfl)) (ki_rng1 rfl B.range (k_int ⟨by decide, by decide, ?_⟩))
  refine ⟨by decide, fun i es => es = ((List.range i).map fun (i : Nat) => PyData.bool (inV (.int (0 + (i : Int))) ((somes v).map V.int))), rfl, fun i d acc hd hp => ?_, fun es he => ?_⟩
  · obtain ⟨hi, rfl⟩ := rangeD_at hd
    subst hp
    refine fun _ _ _ _ _ => k_cm dc_in (k_var 2 rfl rfl (k_var 1 rfl rfl ⟨_, _, rfl, flatDs_ints _, ?_⟩))
    show _ = _
    rw [List.range_succ, List.map_append]
    rfl
  · subst he
    exact hR
abbrev nValue : List Str := ["_law_pool_here", "_law_some"]
theorem scValue : FnScope nValue ["_law_pool_here"] (defScope lValue) := ⟨rfl, rfl, rfl, by decide +kernel, rfl, by decide +kernel, by decide +kernel⟩
theorem l_value (Dt : Dn P w K mg base "_law_take" 1 cTake) (F : Fn0 K mg "_law_value" lValue ["_law_pool_here"]) : Dn P w K mg base "_law_value" 2 cVal := by
  refine dn F scValue (fun as R ⟨e, _⟩ => by subst e; rfl) fun f cdv A outer s H E w0 as R hr hC => ?_
  obtain ⟨rfl, hR⟩ := hC
  show KSs _ _ _ [some .pool, none] _
  refine ks_cons (ks_set 1 scValue.nd rfl (.inl rfl) (k_lst ?_))
  refine ka_cons (k_non ?_)
  refine ka_cons (k_take 0 Dt hr (by decide) rfl rfl rfl (k_pow (k_int (k_int ⟨⟨by decide, by decide, by decide⟩, by decide, by decide, fun r hr1 => ?_⟩))))
  refine ka_cons (k_mulS (k_str (k_take 0 Dt hr (by decide) rfl rfl rfl (k_int ⟨by decide, by decide, fun q hq => ⟨_, _, rfl, rfl, ⟨by omega, by omega, by decide⟩, ?_⟩⟩))))
  refine ka_cons (k_lst (ka_cons (k_int (ka_nil ⟨Nat.le_of_ble_eq_true rfl, ?_⟩))))
  refine ka_cons (k_tup (ka_cons (k_int (ka_cons (k_int (ka_nil ⟨Nat.le_of_ble_eq_true rfl, ?_⟩))))))
  refine ka_cons (k_bl ?_)
  refine ka_cons (k_int ?_)
  refine ka_cons (k_neg ?_)
  refine ka_nil ⟨Nat.le_of_ble_eq_true rfl, ?_⟩
  show KSs _ _ _ [some .pool, some (.dat (.list [.none, .int (r : Int), .str (repS "a" (q : Int)), .list [.int 1], .tuple [.int 1, .int 2], .bool true, .int 1, .int (-1)]))] _
  refine ks_one (ks_ret (k_pick 0 Dt hr (by decide) rfl rfl rfl (k_var 1 rfl rfl (k_int ⟨by decide, by decide, Int.le_refl 8, fun d hd => hR d ?_⟩))))
  simp only [List.mem_cons, List.not_mem_nil, or_false] at hd
  rcases hd with rfl | rfl | rfl | rfl | rfl | rfl | rfl | rfl
  · rfl
  · show decide ((r : Int).natAbs < 10 ^ 21) = true
    have hr2 : (r : Int) < 1000000000 := hr1
    exact decide_eq_true (by omega)
  · have hq : q < 4 := by omega
    match q, hq with
    | 0, _ => decide +kernel
    | 1, _ => decide +kernel
    | 2, _ => decide +kernel
    | 3, _ => decide +kernel
  · decide +kernel
  · decide +kernel
  · rfl
  · decide +kernel
  · decide +kernel
end
end K05


namespace K05
open PySem PySem.Spec PyProof.Rows L2 Kp
abbrev manys : List PyData := [.int 3, .int 1, .int 1, .int 1, .int 0, .int 0, .int 1, .int 1, .int 1, .int 1, .int 1, .int 1, .int 0]
theorem many_at : ∀ (v : Nat) (a b c : PyData), v < 13 → ∃ m : Int, atI manys (v : Int) = some (.int m) ∧ Kp.cutD [a, b, c] none (some m) = dueV v a b c
  | 0, a, b, c, _ => ⟨3, rfl, rfl⟩
  | 1, a, b, c, _ => ⟨1, rfl, rfl⟩
  | 2, a, b, c, _ => ⟨1, rfl, rfl⟩
  | 3, a, b, c, _ => ⟨1, rfl, rfl⟩
  | 4, a, b, c, _ => ⟨0, rfl, rfl⟩
  | 5, a, b, c, _ => ⟨0, rfl, rfl⟩
  | 6, a, b, c, _ => ⟨1, rfl, rfl⟩
  | 7, a, b, c, _ => ⟨1, rfl, rfl⟩
  | 8, a, b, c, _ => ⟨1, rfl, rfl⟩
  | 9, a, b, c, _ => ⟨1, rfl, rfl⟩
  | 10, a, b, c, _ => ⟨1, rfl, rfl⟩
  | 11, a, b, c, _ => ⟨1, rfl, rfl⟩
  | 12, a, b, c, _ => ⟨0, rfl, rfl⟩
  | n + 13, _, _, _, h => absurd h (by omega)
def eqK (w : Nat) : List PyData := (List.range 13).map fun (i : Nat) => .bool (decide ((0 + (i : Int)) = (w : Int)))
theorem base_due : ∀ v : Nat, v < 13 → noD (.list (baseV v)) = true ∧ noD (.list (dueK v)) = true ∧ SeqAt.shaped (.list (baseV v)) = true ∧ SeqAt.shaped (.list (dueK v)) = true ∧ PyData.eqv (.list (baseV v)) (.list (dueK v)) = true := by decide +kernel
theorem kinds_due : ∀ v : Nat, v < 13 → noD (.list (kindsV v)) = true ∧ noD (.list (eqK v)) = true ∧ SeqAt.shaped (.list (kindsV v)) = true ∧ SeqAt.shaped (.list (eqK v)) = true ∧ PyData.eqv (.list (kindsV v)) (.list (eqK v)) = true := by decide +kernel
theorem due_sm {v : Nat} {a b c : PyData} (ha : sm 1 a = true) (hb : sm 1 b = true) (hc : sm 1 c = true) : sm 2 (.list (dueV v a b c)) = true := by
  show (decide ((dueV v a b c).length ≤ 20) && (dueV v a b c).all (sm 1)) = true
  have hl : (dueV v a b c).length ≤ 3 := by
    unfold dueV
    rw [List.length_take]
    exact Nat.min_le_right _ _
  rw [Bool.and_eq_true, decide_eq_true_eq, List.all_eq_true]
  refine ⟨by omega, fun d hd => ?_⟩
  have := List.mem_of_mem_take hd
  simp only [List.mem_cons, List.not_mem_nil, or_false] at this
  rcases this with rfl | rfl | rfl <;> assumption
def cRight (cl : Nat → Addr) : List AV → (AV → Prop) → Prop := fun as R => ∃ (w : Nat) (a b c : PyData), as = [.dat (.int (w : Int)), .err (cl w) (flD w a b c), .dat (.list [a, b, c])] ∧ w < 13 ∧ (sm 1 a = true ∧ sm 1 b = true ∧ sm 1 c = true) ∧ R (.dat (.bool true))
section
variable {base : Heap} {K : PySem.W.Frag} {w : World} {P : Program} {mg : Str → Option Value} {cl : Nat → Addr}
abbrev nRight : List Str := ["_law_which", "_law_error", "_law_values", "_law_due", "_law_number"]
theorem scRight : FnScope nRight ["_law_which", "_law_error", "_law_values"] (defScope lRight) := ⟨rfl, rfl, rfl, by decide +kernel, rfl, by decide +kernel, by decide +kernel⟩
theorem l_right (B : Blt mg) (D1 : Dn P w K mg base "_law_fields" 2 (cFields cl)) (D2 : Dn P w K mg base "_law_base_kinds" 1 (cBase cl)) (D3 : Dn P w K mg base "_law_due_kinds" 1 cDue) (D4 : Dn P w K mg base "_law_kinds" 1 (cKinds cl)) (F : Fn0 K mg "_law_right" lRight ["_law_which", "_law_error", "_law_values"]) :
    DnG P w K mg base "_law_right" 3 (cRight cl) := by
  refine dnG F scRight (fun as R ⟨w, a, b, c, e, _⟩ => by subst e; rfl) fun f cdv A outer s H E w0 as R hg hr hC => ?_
  obtain ⟨v, a, b, c, rfl, hw, ⟨ha, hb, hc⟩, hR⟩ := hC
  obtain ⟨m, m1, m2⟩ := many_at v a b c hw
  obtain ⟨k1, k2, k3⟩ := sm_ok 2 _ (due_sm (v := v) ha hb hc)
  have k3' : (PyData.list (dueV v a b c)).shown.length ≤ 16777216 := Nat.le_trans k3 (by decide)
  have k2' : (PyData.list (dueV v a b c)).depth ≤ 20 := Nat.le_trans k2 (by decide)
  obtain ⟨e1, e2, e3, e4, e5⟩ := base_due v hw
  obtain ⟨g1, g2, g3, g4, g5⟩ := kinds_due v hw
  show KSs _ _ _ [some (.dat (.int (v : Int))), some (.err (cl v) (flD v a b c)), some (.dat (.list [a, b, c])), none, none] _
  refine ks_cons (ks_set 3 scRight.nd rfl (.inl rfl) (k_slc (k_var 2 rfl rfl (ko_none (ko_some (k_idx (fun _ _ => rfl) (k_lst ?_)))))))
  refine ka_cons (k_int (ka_cons (k_int (ka_cons (k_int (ka_cons (k_int (ka_cons (k_int (ka_cons (k_int (ka_cons (k_int ?_)))))))))))))
  refine ka_cons (k_int (ka_cons (k_int (ka_cons (k_int (ka_cons (k_int (ka_cons (k_int (ka_cons (k_int ?_)))))))))))
  refine ka_nil ⟨Nat.le_of_ble_eq_true rfl, k_var 0 rfl rfl ⟨_, m1, ?_⟩⟩
  dsimp only [Kp.onInt, Kp.slS]
  rw [m2]
  show KSs _ _ _ [some (.dat (.int (v : Int))), some (.err (cl v) (flD v a b c)), some (.dat (.list [a, b, c])), some (.dat (.list (dueV v a b c))), none] _
  refine ks_cons (ks_if (kt_w (kw_or (kt_cm dc_sne (k_cB (dl_reprL hg hr.units) rfl B.repr b_repr (ka_cons (k_cd D1 hr (by decide) rfl (ka_cons (k_var 0 rfl rfl (ka_cons (k_var 1 rfl rfl (ka_nil ⟨rfl, v, a, b, c, rfl, hw, ka_nil ⟨k1, k2', k3', ?_⟩⟩))))))))))))
  refine k_cB (dl_reprL hg hr.units) rfl B.repr b_repr (ka_cons (k_var 3 rfl rfl (ka_nil ⟨k1, k2', k3', ?_⟩)))
  refine iteN (fun h => absurd rfl h) (fun _ => ?_)
  refine kw_or1 (kt_cm (dc_ne hr.units) (k_cd D2 hr (by decide) rfl (ka_cons (k_var 1 rfl rfl (ka_nil ⟨rfl, v, _, rfl, hw, ?_⟩)))))
  refine k_cd D3 hr (by decide) rfl (ka_cons (k_var 0 rfl rfl (ka_nil ⟨rfl, v, rfl, hw, e1, e2, e3, e4, ?_⟩)))
  rw [e5]
  refine ks_nil (ks_one (ks_ret (k_cm (dc_eq hr.units) (k_cd D4 hr (by decide) rfl (ka_cons (k_var 1 rfl rfl (ka_nil ⟨rfl, v, _, rfl, hw, ?_⟩)))))))
  refine k_ofN ?_
  refine kn_lc (own := [("_law_number", 4)]) (g := gName 4) rfl scRight.nd (blkOk_by (N := nRight) (sc := defScope lRight) (by decide +kernel)) (tgok1 4) (fun _ _ _ _ _ => pg_name (i := 4) scRight.nd rfl (Or.inl rfl)) (ki_rng1 rfl B.range (k_int ⟨by decide, by decide, ?_⟩))
  refine ⟨by decide, fun i es => es = ((List.range i).map fun (i : Nat) => PyData.bool (decide ((0 + (i : Int)) = (v : Int)))), rfl, fun i d acc hd hp => ?_, fun es he => ?_⟩
  · obtain ⟨hi, rfl⟩ := rangeD_at hd
    subst hp
    refine fun _ _ _ _ _ => k_cm dc_seq (k_var 4 rfl rfl (k_var 0 rfl rfl ?_))
    show _ = _
    rw [List.range_succ, List.map_append]
    rfl
  · subst he
    refine ⟨g1, g2, g3, g4, ?_⟩
    show R (.dat (.bool (PyData.eqv (.list (kindsV v)) (.list (eqK v)))))
    rw [g5]
    exact hR
abbrev nLaw : List Str := ["_law_script", "_law_k", "_law_pool_here", "_law_one", "_law_two", "_law_three", "_law_which", "_law_first", "_law_second"]
theorem scLaw : FnScope nLaw ["_law_script"] (defScope lLaw) := ⟨rfl, rfl, rfl, by decide +kernel, rfl, by decide +kernel, by decide +kernel⟩
theorem law_body {f : Addr} {cdv : Value} {A : Around} {outer : List Env} {s : Shared} {H : Hp} {E : XK} {w0 : Wl} {as : List AV} {R : AV → Prop} (B : Blt mg) (Dp : Dn P w K mg base "_law_pool" 1 cPool) (Dv : Dn P w K mg base "_law_value" 2 cVal) (Dm : Dn P w K mg base "_law_made" 3 (cMade cl))
    (Dr : DnG P w K mg base "_law_right" 3 (cRight cl)) (hg : A.guards = some []) (hr : Room 3 (A.deeper (envOfC "law" (defScope lLaw) s.heap.objs.size f cdv))) (hC : cLaw as R) :
    KSs (cxB P w K mg base nLaw "law" (defScope lLaw) f cdv A outer s H E) w0 (defBody lLaw) (ss0 nLaw.length as) { nx := fun _ => R (.dat .none), rt := R } := by
  obtain ⟨ns, rfl, hl, hR⟩ := hC
  show KSs _ _ _ [some (.scr ns), none, none, none, none, none, none, none, none] _
  refine ks_cons (ks_for PassesOwn.never rfl (tgok1 1) (pg_name (i := 1) scLaw.nd rfl (Or.inl rfl)) (ki_rng1 rfl B.range (k_cB (dl_max rfl) rfl B.max b_max (ka_cons (k_int (ka_cons (k_cB (dl_min rfl) rfl B.min b_min (ka_cons (k_cB dl_len rfl B.len b_len (ka_cons (k_var 0 rfl rfl (ka_nil (ka_cons (k_int (ka_nil (ka_nil ?_))))))))))))))))
  obtain ⟨cnt, ec, e3, e4⟩ : ∃ cnt : Int, (if (if (20 : Int) < (ns.length : Int) then (20 : Int) else (ns.length : Int)) > 1 then (if (20 : Int) < (ns.length : Int) then (20 : Int) else (ns.length : Int)) else 1) = cnt ∧ cnt ≤ 20 ∧ 1 ≤ cnt := ⟨_, rfl, by split <;> split <;> omega, by split <;> omega⟩
  dsimp only [Kp.int2S, Kp.onInt]
  rw [ec]
  refine ⟨by omega, by omega, fun _ ss' => ∃ o1 o2 o3 o4 o5 o6 o7 o8, ss' = [some (.scr ns), o1, o2, o3, o4, o5, o6, o7, o8], ⟨_, _, _, _, _, _, _, _, rfl⟩, fun i d ss' hd hI => ?_, fun ss' hI => ?_⟩
  · obtain ⟨o1, o2, o3, o4, o5, o6, o7, o8, rfl⟩ := hI
    obtain ⟨hi, rfl⟩ := rangeD_at hd
    show KSs _ _ _ [some (.scr ns), some (.dat (.int (0 + (i : Int)))), o2, o3, o4, o5, o6, o7, o8] _
    refine ks_cons (ks_set 2 scLaw.nd rfl (.inl rfl) (k_cd Dp hr (by decide) rfl (ka_cons (k_var 0 rfl rfl (ka_cons (k_var 1 rfl rfl (ka_nil ⟨rfl, ns, 0 + (i : Int), rfl, hl, by omega, by omega, ?_⟩)))))))
    show KSs _ _ _ [some (.scr ns), some (.dat (.int (0 + (i : Int)))), some .pool, o3, o4, o5, o6, o7, o8] _
    refine ks_cons (ks_set 3 scLaw.nd rfl (.inl rfl) (k_cd Dv hr (by decide) rfl (ka_cons (k_var 2 rfl rfl (ka_nil ⟨rfl, rfl, fun a ha => ?_⟩)))))
    refine ks_cons (ks_set 4 scLaw.nd rfl (.inl rfl) (k_cd Dv hr (by decide) rfl (ka_cons (k_var 2 rfl rfl (ka_nil ⟨rfl, rfl, fun b hb => ?_⟩)))))
    refine ks_cons (ks_set 5 scLaw.nd rfl (.inl rfl) (k_cd Dv hr (by decide) rfl (ka_cons (k_var 2 rfl rfl (ka_nil ⟨rfl, rfl, fun c hc => ?_⟩)))))
    show KSs _ _ _ [some (.scr ns), some (.dat (.int (0 + (i : Int)))), some .pool, some (.dat a), some (.dat b), some (.dat c), o6, o7, o8] _
    refine ks_one (ks_for PassesOwn.never rfl (tgok1 6) (pg_name (i := 6) scLaw.nd rfl (Or.inl rfl)) (ki_rng1 rfl B.range (k_int ⟨by decide, by decide, ?_⟩)))
    refine ⟨fun _ ss' => ∃ o6 o7 o8, ss' = [some (.scr ns), some (.dat (.int (0 + (i : Int)))), some .pool, some (.dat a), some (.dat b), some (.dat c), o6, o7, o8], ⟨_, _, _, rfl⟩, fun j d ss' hd hI => ?_, fun ss' hI => ?_⟩
    · obtain ⟨p6, p7, p8, rfl⟩ := hI
      obtain ⟨hj, rfl⟩ := rangeD_at hd
      rw [Int.zero_add]
      have hj : j < 13 := hj
      show KSs _ _ _ [some (.scr ns), some (.dat (.int (0 + (i : Int)))), some .pool, some (.dat a), some (.dat b), some (.dat c), some (.dat (.int (j : Int))), p7, p8] _
      refine ks_cons (ks_set 7 scLaw.nd rfl (.inl rfl) (k_cd Dm hr (by decide) rfl (ka_cons (k_var 6 rfl rfl (ka_cons (k_var 3 rfl rfl (ka_cons (k_var 4 rfl rfl (ka_cons (k_var 5 rfl rfl (ka_nil ⟨rfl, j, a, b, c, rfl, hj, ?_⟩)))))))))))
      refine ks_cons (ks_set 8 scLaw.nd rfl (.inl rfl) (k_cd Dm hr (by decide) rfl (ka_cons (k_var 6 rfl rfl (ka_cons (k_var 5 rfl rfl (ka_cons (k_var 3 rfl rfl (ka_cons (k_var 4 rfl rfl (ka_nil ⟨rfl, j, c, a, b, rfl, hj, ?_⟩)))))))))))
      show KSs _ _ _ [some (.scr ns), some (.dat (.int (0 + (i : Int)))), some .pool, some (.dat a), some (.dat b), some (.dat c), some (.dat (.int (j : Int))), some (.err (cl j) (flD j a b c)), some (.err (cl j) (flD j c a b))] _
      refine ks_cons (ks_if (kt_w (kw_or (kt_not (kt_val (k_cg Dr hg hr (by decide) rfl (ka_cons (k_var 6 rfl rfl (ka_cons (k_var 7 rfl rfl (ka_cons (k_lst ?_)))))))))))) 
      refine ka_cons (k_var 3 rfl rfl (ka_cons (k_var 4 rfl rfl (ka_cons (k_var 5 rfl rfl (ka_nil ⟨Nat.le_of_ble_eq_true rfl, ka_nil ⟨rfl, j, a, b, c, rfl, hj, ⟨ha, hb, hc⟩, ?_⟩⟩))))))
      refine kw_or1 (kt_not (kt_val (k_cg Dr hg hr (by decide) rfl (ka_cons (k_var 6 rfl rfl (ka_cons (k_var 8 rfl rfl (ka_cons (k_lst ?_)))))))))
      refine ka_cons (k_var 5 rfl rfl (ka_cons (k_var 3 rfl rfl (ka_cons (k_var 4 rfl rfl (ka_nil ⟨Nat.le_of_ble_eq_true rfl, ka_nil ⟨rfl, j, c, a, b, rfl, hj, ⟨hc, ha, hb⟩, ?_⟩⟩))))))
      refine ks_nil (ks_one (ks_if (kt_not (kt_val (k_cg Dr hg hr (by decide) rfl (ka_cons (k_var 6 rfl rfl (ka_cons (k_var 7 rfl rfl (ka_cons (k_lst ?_)))))))))))
      refine ka_cons (k_var 3 rfl rfl (ka_cons (k_var 4 rfl rfl (ka_cons (k_var 5 rfl rfl (ka_nil ⟨Nat.le_of_ble_eq_true rfl, ka_nil ⟨rfl, j, a, b, c, rfl, hj, ⟨ha, hb, hc⟩, ?_⟩⟩))))))
      exact ks_nil ⟨_, _, _, rfl⟩
    · obtain ⟨p6, p7, p8, rfl⟩ := hI
      exact ⟨_, _, _, _, _, _, _, _, rfl⟩
  · obtain ⟨o1, o2, o3, o4, o5, o6, o7, o8, rfl⟩ := hI
    exact ks_one (ks_ret (k_bl hR))
end
end K05


namespace K05
open PySem PySem.Spec PyProof.Rows L2 Kp
section
variable {base : Heap} {K : PySem.W.Frag} {w : World} {P : Program} {mg : Str → Option Value}
theorem er_mk {h : Heap} {x qual : Str} {fs : List Str} {tl : List Value} {st : Stmt} {ps : List Str} {C fI : Addr} {B n1 n2 : String} {cd0 : ClassData} {oc kV dc pm cd ct : Value} {od an : Option Addr} {sl : Array (Option Value)} (X : K.In h) (G : h.Ns mainGlobals mg) (EF : ExcBaseFacts B n1 n2 tl) (ES : StoreFacts B tl "object.__setattr__" "object") (hn : noRef tl = true)
    (a1 : PySem.W.nsIn K mainGlobals x = some (some (.ref C))) (a2 : PySem.W.clsIn K C = some cd0) (a3 : cd0.name = x) (a4 : cd0.mro = .ref C :: tl) (a5 : PySem.W.excInitIn K C tl n1 = true) (a6 : PySem.W.excOver K C tl = true) (a7 : PySem.W.hasDictIn K C = true)
    (a8 : PySem.W.findIn K (.ref C) "__setattr__" = some (some (.builtin "object.__setattr__"))) (a9 : PySem.W.keepIn K (.ref C) = true) (a10 : PySem.W.findIn K (.ref C) "__init__" = some (some (.ref fI))) (a11 : PySem.W.typeIn K (.ref fI) = some (.type "function"))
    (a12 : K.lookup fI = some ⟨oc, od, .func (PySem.W.fnOf "__init__" qual (defArgs st) (defBody st) (defScope st) .none kV dc pm an cd ct), sl⟩) (a13 : PySem.W.codeIn K cd qual = true) (a14 : PySem.W.keepIn K (.ref fI) = true)
    (a15 : ∀ us : List Value, us.length = ps.length → bindArgs (PySem.W.fnOf "__init__" qual (defArgs st) (defBody st) (defScope st) .none kV dc pm an cd ct) ⟨us, []⟩ = pure (ps.zip us)) (a16 : PySem.W.typeIn K (.ref C) = some (.type "type"))
    (a17 : ∀ f ∈ fs, PySem.W.findIn K (.ref C) f = some none) (a18 : PySem.W.findIn K (.ref C) "__getattribute__" = some (some (.builtin "BaseException.__getattribute__"))) (a19 : PySem.W.findIn K (.ref C) "__getattr__" = some none) (a20 : PySem.W.subIn K (.ref C) (.type "BaseException") = some true)
    (a21 : PySem.W.findIn K (.ref C) "__class__" = some (some (.builtin "object.__class__"))) (a22 : PySem.W.specialIn K (.builtin "object.__class__") "__get__" = some (some (.builtin "getset_descriptor.__get__"))) (a23 : PySem.W.takesIn K (.builtin "object.__class__") = some true) (a24 : PySem.W.mroIn K C (.type "object") = some true) :
    ErK K mg x qual fs tl st ps C where
  ox := ⟨B, n1, n2, EF, ES, a5, a6, a7, a8, a9⟩
  nm := ⟨cd0, a2, a3, a4⟩
  tl := hn
  fI := ⟨fI, _, a10, a11, fun_mk (st := st) a12 a13 a14, Binds.all a15⟩
  m := PySem.W.mg_of X G a1
  ty := a16
  no := a17
  xf := ⟨a18, a19, a20, a7⟩
  ex := ⟨a18, a19, a20, a7, a21, a22, a23, a24⟩
theorem ers_mk {c0 c1 c2 c3 c4 c5 c6 c7 c8 c9 c10 c11 c12 : Addr} (h0 : ErK K mg (nms 0) (qual 0) (flds 0) (tls 0) (sInit 0) (pss 0) c0) (h1 : ErK K mg (nms 1) (qual 1) (flds 1) (tls 1) (sInit 1) (pss 1) c1) (h2 : ErK K mg (nms 2) (qual 2) (flds 2) (tls 2) (sInit 2) (pss 2) c2)
    (h3 : ErK K mg (nms 3) (qual 3) (flds 3) (tls 3) (sInit 3) (pss 3) c3) (h4 : ErK K mg (nms 4) (qual 4) (flds 4) (tls 4) (sInit 4) (pss 4) c4) (h5 : ErK K mg (nms 5) (qual 5) (flds 5) (tls 5) (sInit 5) (pss 5) c5) (h6 : ErK K mg (nms 6) (qual 6) (flds 6) (tls 6) (sInit 6) (pss 6) c6)
    (h7 : ErK K mg (nms 7) (qual 7) (flds 7) (tls 7) (sInit 7) (pss 7) c7) (h8 : ErK K mg (nms 8) (qual 8) (flds 8) (tls 8) (sInit 8) (pss 8) c8) (h9 : ErK K mg (nms 9) (qual 9) (flds 9) (tls 9) (sInit 9) (pss 9) c9) (h10 : ErK K mg (nms 10) (qual 10) (flds 10) (tls 10) (sInit 10) (pss 10) c10)
    (h11 : ErK K mg (nms 11) (qual 11) (flds 11) (tls 11) (sInit 11) (pss 11) c11) (h12 : ErK K mg (nms 12) (qual 12) (flds 12) (tls 12) (sInit 12) (pss 12) c12) : Ers K mg (fun i => [c0, c1, c2, c3, c4, c5, c6, c7, c8, c9, c10, c11, c12].getD i 0)
  | 0, _ => h0
  | 1, _ => h1
  | 2, _ => h2
  | 3, _ => h3
  | 4, _ => h4
  | 5, _ => h5
  | 6, _ => h6
  | 7, _ => h7
  | 8, _ => h8
  | 9, _ => h9
  | 10, _ => h10
  | 11, _ => h11
  | 12, _ => h12
  | n + 13, h => absurd h (by omega)
structure Tops (K : PySem.W.Frag) (mg : Str → Option Value) (cl : Nat → Addr) : Prop where
  B : Blt mg
  V : Ebl mg
  T : Ers K mg cl
  g1 : Fn0 K mg "_law_pool" lPool ["_law_script", "_law_k"]
  g2 : Fn0 K mg "_law_take" lTake ["_law_pool_here", "_law_size"]
  g3 : Fn0 K mg "_law_kinds" lKinds ["_law_error"]
  g4 : Fn0 K mg "_law_base_kinds" lBase ["_law_error"]
  g5 : Fn0 K mg "_law_made" lMade nMade
  g6 : Fn0 K mg "_law_field" lField nField
  g7 : Fn0 K mg "_law_fields" lFields nField
  g8 : Fn0 K mg "_law_due_kinds" lDue ["_law_which"]
  g9 : Fn0 K mg "_law_value" lValue ["_law_pool_here"]
  g10 : Fn0 K mg "_law_right" lRight ["_law_which", "_law_error", "_law_values"]
theorem law_ok {f : Addr} {fd : FuncData} {cl : Nat → Addr} (T : Tops K mg cl) (F : Fun K "law" "law" lLaw f fd) : FnG P w K mg base 4 f fd ["_law_script"] (spA K cLaw) := by
  have B := T.B
  have v1 : Dn P w K mg base "_law_take" 1 cTake := l_take T.g2
  have v2 : Dn P w K mg base "_law_pool" 1 cPool := l_pool B T.g1
  have v3 : Dn P w K mg base "_law_kinds" 1 (cKinds cl) := l_kinds B T.T T.g3
  have v4 : Dn P w K mg base "_law_base_kinds" 1 (cBase cl) := l_base B T.V T.T T.g4
  have v5 : Dn P w K mg base "_law_made" 3 (cMade cl) := l_made T.T T.g5
  have v6 : Dn P w K mg base "_law_field" 1 (cField cl) := l_field T.T T.g6
  have v7 : Dn P w K mg base "_law_fields" 2 (cFields cl) := l_fields T.T v6 T.g7
  have v8 : Dn P w K mg base "_law_due_kinds" 1 cDue := l_due B T.g8
  have v9 : Dn P w K mg base "_law_value" 2 cVal := l_value v1 T.g9
  have v10 : DnG P w K mg base "_law_right" 3 (cRight cl) := l_right B v7 v4 v8 v3 T.g10
  exact okGA F scLaw (fun as R ⟨ns, e, _⟩ => by subst e; rfl) fun cdv A outer s H E w0 as R hg hr hC => law_body B v2 v9 v5 v10 hg hr hC
theorem fn0_mk {h : Heap} {x : Str} {st : Stmt} {ps : List Str} {f : Addr} {oc kV dc pm cd ct : Value} {od an : Option Addr} {sl : Array (Option Value)} (X : K.In h) (G : h.Ns mainGlobals mg) (a : PySem.W.nsIn K mainGlobals x = some (some (.ref f)))
    (l : K.lookup f = some ⟨oc, od, .func (PySem.W.fnOf x x (defArgs st) (defBody st) (defScope st) .none kV dc pm an cd ct), sl⟩) (c : PySem.W.codeIn K cd x = true) (k : PySem.W.keepIn K (.ref f) = true)
    (b : ∀ us : List Value, us.length = ps.length → bindArgs (PySem.W.fnOf x x (defArgs st) (defBody st) (defScope st) .none kV dc pm an cd ct) ⟨us, []⟩ = pure (ps.zip us)) : Fn0 K mg x st ps :=
  ⟨f, _, fun_mk l c k, PySem.W.mg_of X G a, Binds.all b⟩
theorem all_mk {h : Heap} {fa f : Addr} {oc kV dc pm cd ct : Value} {od an : Option Addr} {sl : Array (Option Value)} {cl : Nat → Addr} (X : K.In h) (G : h.Ns mainGlobals mg) (hfa : mg "law" = some (.ref fa)) (T : Tops K mg cl)
    (a : PySem.W.nsIn K mainGlobals "law" = some (some (.ref f))) (l : K.lookup f = some ⟨oc, od, .func (PySem.W.fnOf "law" "law" (defArgs lLaw) (defBody lLaw) (defScope lLaw) .none kV dc pm an cd ct), sl⟩) (c : PySem.W.codeIn K cd "law" = true) (k : PySem.W.keepIn K (.ref f) = true) :
    ∃ fd : FuncData, (∀ (s : Shared) (u : Value), BindsTo s fd ⟨[u], []⟩ [("_law_script", u)]) ∧ ∀ base : Heap, K.In base → base.Ns mainGlobals mg → FnG P w K mg base 4 fa fd ["_law_script"] (spA K cLaw) := by
  have e := hfa.symm.trans (PySem.W.mg_of X G a)
  cases e
  exact ⟨_, fun s u => .of_eq rfl, fun base _ _ => law_ok T (fun_mk (st := lLaw) l c k)⟩
end
end K05


open PySem PySem.W PyProof.Rows
set_option maxHeartbeats 0
open_top head05 for PySem.Challenge.rw_readsfrom_k05_refusals_apart
theorem PySem.Challenge.cw_readsfrom_k05_refusals_apart_holds : PySem.Challenge.rw_readsfrom_k05_refusals_apart.Holds :=
  head05 (by
  k_fill
  refine Kp.walkG (l := PySem.Challenge.rw_readsfrom_k05_refusals_apart) (k := 4) (x := "_law_script") rfl rfl ⟨rfl, by decide, by decide⟩ (fun w h Y => PySem.W.kIn_of Y) ?F
  case F =>
    intro w mg fa h KX G hmg
    refine' K05.all_mk KX G hmg ?T ?a ?l ?c ?k
    case a => k_is
    case l => k_is
    case c => k_is
    case k => k_is
    case T =>
      refine' ⟨?B, ?V, K05.ers_mk ?e0 ?e1 ?e2 ?e3 ?e4 ?e5 ?e6 ?e7 ?e8 ?e9 ?e10 ?e11 ?e12, ?g1, ?g2, ?g3, ?g4, ?g5, ?g6, ?g7, ?g8, ?g9, ?g10⟩
      case B =>
        refine' ⟨?b1, ?b2, ?b3, ?b4, ?b5, ?b6, ?b7, ?b8, ?b9, ?b10, ?b11, ?b12, ?b13, ?b14⟩
        all_goals (refine' PySem.W.mg_none_of KX G ?z; (case z => k_is))
      case V =>
        refine' ⟨?b1V, ?b2V, ?b3V, ?b4V, ?b5V, ?b6V⟩
        all_goals (refine' PySem.W.mg_none_of KX G ?z; (case z => k_is))
      case e0 =>
        refine' K05.er_mk KX G PySem.F.excBase_ValueError PySem.F.store_ValueError rfl ?a1e0 ?a2e0 ?a3e0 ?a4e0 ?a5e0 ?a6e0 ?a7e0 ?a8e0 ?a9e0 ?a10e0 ?a11e0 ?a12e0 ?a13e0 ?a14e0 (fun us hl => match us, hl with | [_, _, _, _], _ => rfl) ?a16e0 ?a17e0 ?a18e0 ?a19e0 ?a20e0 ?a21e0 ?a22e0 ?a23e0 ?a24e0
        case a1e0 => k_is
        case a2e0 => k_is
        case a3e0 => rfl
        case a4e0 => rfl
        case a5e0 => kx_is
        case a6e0 => kx_is
        case a7e0 => k_is
        case a8e0 => k_is
        case a9e0 => k_is
        case a10e0 => k_is
        case a11e0 => k_is
        case a12e0 => k_is
        case a13e0 => k_is
        case a14e0 => k_is
        case a16e0 => k_is
        case a17e0 =>
          intro f hf
          rcases List.mem_cons.mp hf with e | hf
          · rw [e]; k_is
          rcases List.mem_cons.mp hf with e | hf
          · rw [e]; k_is
          rw [List.mem_singleton.mp hf]; k_is
        all_goals k_is
      case e1 =>
        refine' K05.er_mk KX G PySem.F.excBase_ValueError PySem.F.store_ValueError rfl ?a1e1 ?a2e1 ?a3e1 ?a4e1 ?a5e1 ?a6e1 ?a7e1 ?a8e1 ?a9e1 ?a10e1 ?a11e1 ?a12e1 ?a13e1 ?a14e1 (fun us hl => match us, hl with | [_, _], _ => rfl) ?a16e1 ?a17e1 ?a18e1 ?a19e1 ?a20e1 ?a21e1 ?a22e1 ?a23e1 ?a24e1
        case a1e1 => k_is
        case a2e1 => k_is
        case a3e1 => rfl
        case a4e1 => rfl
        case a5e1 => kx_is
        case a6e1 => kx_is
        case a7e1 => k_is
        case a8e1 => k_is
        case a9e1 => k_is
        case a10e1 => k_is
        case a11e1 => k_is
        case a12e1 => k_is
        case a13e1 => k_is
        case a14e1 => k_is
        case a16e1 => k_is
        case a17e1 =>
          intro f hf
          rw [List.mem_singleton.mp hf]
          k_is
        all_goals k_is
      case e2 =>
        refine' K05.er_mk KX G PySem.F.excBase_ValueError PySem.F.store_ValueError rfl ?a1e2 ?a2e2 ?a3e2 ?a4e2 ?a5e2 ?a6e2 ?a7e2 ?a8e2 ?a9e2 ?a10e2 ?a11e2 ?a12e2 ?a13e2 ?a14e2 (fun us hl => match us, hl with | [_, _], _ => rfl) ?a16e2 ?a17e2 ?a18e2 ?a19e2 ?a20e2 ?a21e2 ?a22e2 ?a23e2 ?a24e2
        case a1e2 => k_is
        case a2e2 => k_is
        case a3e2 => rfl
        case a4e2 => rfl
        case a5e2 => kx_is
        case a6e2 => kx_is
        case a7e2 => k_is
        case a8e2 => k_is
        case a9e2 => k_is
        case a10e2 => k_is
        case a11e2 => k_is
        case a12e2 => k_is
        case a13e2 => k_is
        case a14e2 => k_is
        case a16e2 => k_is
        case a17e2 =>
          intro f hf
          rw [List.mem_singleton.mp hf]
          k_is
        all_goals k_is
      case e3 =>
        refine' K05.er_mk KX G PySem.F.excBase_ValueError PySem.F.store_ValueError rfl ?a1e3 ?a2e3 ?a3e3 ?a4e3 ?a5e3 ?a6e3 ?a7e3 ?a8e3 ?a9e3 ?a10e3 ?a11e3 ?a12e3 ?a13e3 ?a14e3 (fun us hl => match us, hl with | [_, _], _ => rfl) ?a16e3 ?a17e3 ?a18e3 ?a19e3 ?a20e3 ?a21e3 ?a22e3 ?a23e3 ?a24e3
        case a1e3 => k_is
        case a2e3 => k_is
        case a3e3 => rfl
        case a4e3 => rfl
        case a5e3 => kx_is
        case a6e3 => kx_is
        case a7e3 => k_is
        case a8e3 => k_is
        case a9e3 => k_is
        case a10e3 => k_is
        case a11e3 => k_is
        case a12e3 => k_is
        case a13e3 => k_is
        case a14e3 => k_is
        case a16e3 => k_is
        case a17e3 =>
          intro f hf
          rw [List.mem_singleton.mp hf]
          k_is
        all_goals k_is
      case e4 =>
        refine' K05.er_mk KX G PySem.F.excBase_ValueError PySem.F.store_ValueError rfl ?a1e4 ?a2e4 ?a3e4 ?a4e4 ?a5e4 ?a6e4 ?a7e4 ?a8e4 ?a9e4 ?a10e4 ?a11e4 ?a12e4 ?a13e4 ?a14e4 (fun us hl => match us, hl with | [_], _ => rfl) ?a16e4 ?a17e4 ?a18e4 ?a19e4 ?a20e4 ?a21e4 ?a22e4 ?a23e4 ?a24e4
        case a1e4 => k_is
        case a2e4 => k_is
        case a3e4 => rfl
        case a4e4 => rfl
        case a5e4 => kx_is
        case a6e4 => kx_is
        case a7e4 => k_is
        case a8e4 => k_is
        case a9e4 => k_is
        case a10e4 => k_is
        case a11e4 => k_is
        case a12e4 => k_is
        case a13e4 => k_is
        case a14e4 => k_is
        case a16e4 => k_is
        case a17e4 =>
          intro f hf
          cases hf
        all_goals k_is
      case e5 =>
        refine' K05.er_mk KX G PySem.F.excBase_ValueError PySem.F.store_ValueError rfl ?a1e5 ?a2e5 ?a3e5 ?a4e5 ?a5e5 ?a6e5 ?a7e5 ?a8e5 ?a9e5 ?a10e5 ?a11e5 ?a12e5 ?a13e5 ?a14e5 (fun us hl => match us, hl with | [_], _ => rfl) ?a16e5 ?a17e5 ?a18e5 ?a19e5 ?a20e5 ?a21e5 ?a22e5 ?a23e5 ?a24e5
        case a1e5 => k_is
        case a2e5 => k_is
        case a3e5 => rfl
        case a4e5 => rfl
        case a5e5 => kx_is
        case a6e5 => kx_is
        case a7e5 => k_is
        case a8e5 => k_is
        case a9e5 => k_is
        case a10e5 => k_is
        case a11e5 => k_is
        case a12e5 => k_is
        case a13e5 => k_is
        case a14e5 => k_is
        case a16e5 => k_is
        case a17e5 =>
          intro f hf
          cases hf
        all_goals k_is
      case e6 =>
        refine' K05.er_mk KX G PySem.F.excBase_IndexError PySem.F.store_IndexError rfl ?a1e6 ?a2e6 ?a3e6 ?a4e6 ?a5e6 ?a6e6 ?a7e6 ?a8e6 ?a9e6 ?a10e6 ?a11e6 ?a12e6 ?a13e6 ?a14e6 (fun us hl => match us, hl with | [_, _], _ => rfl) ?a16e6 ?a17e6 ?a18e6 ?a19e6 ?a20e6 ?a21e6 ?a22e6 ?a23e6 ?a24e6
        case a1e6 => k_is
        case a2e6 => k_is
        case a3e6 => rfl
        case a4e6 => rfl
        case a5e6 => kx_is
        case a6e6 => kx_is
        case a7e6 => k_is
        case a8e6 => k_is
        case a9e6 => k_is
        case a10e6 => k_is
        case a11e6 => k_is
        case a12e6 => k_is
        case a13e6 => k_is
        case a14e6 => k_is
        case a16e6 => k_is
        case a17e6 =>
          intro f hf
          rw [List.mem_singleton.mp hf]
          k_is
        all_goals k_is
      case e7 =>
        refine' K05.er_mk KX G PySem.F.excBase_IndexError PySem.F.store_IndexError rfl ?a1e7 ?a2e7 ?a3e7 ?a4e7 ?a5e7 ?a6e7 ?a7e7 ?a8e7 ?a9e7 ?a10e7 ?a11e7 ?a12e7 ?a13e7 ?a14e7 (fun us hl => match us, hl with | [_, _], _ => rfl) ?a16e7 ?a17e7 ?a18e7 ?a19e7 ?a20e7 ?a21e7 ?a22e7 ?a23e7 ?a24e7
        case a1e7 => k_is
        case a2e7 => k_is
        case a3e7 => rfl
        case a4e7 => rfl
        case a5e7 => kx_is
        case a6e7 => kx_is
        case a7e7 => k_is
        case a8e7 => k_is
        case a9e7 => k_is
        case a10e7 => k_is
        case a11e7 => k_is
        case a12e7 => k_is
        case a13e7 => k_is
        case a14e7 => k_is
        case a16e7 => k_is
        case a17e7 =>
          intro f hf
          rw [List.mem_singleton.mp hf]
          k_is
        all_goals k_is
      case e8 =>
        refine' K05.er_mk KX G PySem.F.excBase_IndexError PySem.F.store_IndexError rfl ?a1e8 ?a2e8 ?a3e8 ?a4e8 ?a5e8 ?a6e8 ?a7e8 ?a8e8 ?a9e8 ?a10e8 ?a11e8 ?a12e8 ?a13e8 ?a14e8 (fun us hl => match us, hl with | [_, _], _ => rfl) ?a16e8 ?a17e8 ?a18e8 ?a19e8 ?a20e8 ?a21e8 ?a22e8 ?a23e8 ?a24e8
        case a1e8 => k_is
        case a2e8 => k_is
        case a3e8 => rfl
        case a4e8 => rfl
        case a5e8 => kx_is
        case a6e8 => kx_is
        case a7e8 => k_is
        case a8e8 => k_is
        case a9e8 => k_is
        case a10e8 => k_is
        case a11e8 => k_is
        case a12e8 => k_is
        case a13e8 => k_is
        case a14e8 => k_is
        case a16e8 => k_is
        case a17e8 =>
          intro f hf
          rw [List.mem_singleton.mp hf]
          k_is
        all_goals k_is
      case e9 =>
        refine' K05.er_mk KX G PySem.F.excBase_LookupError PySem.F.store_LookupError rfl ?a1e9 ?a2e9 ?a3e9 ?a4e9 ?a5e9 ?a6e9 ?a7e9 ?a8e9 ?a9e9 ?a10e9 ?a11e9 ?a12e9 ?a13e9 ?a14e9 (fun us hl => match us, hl with | [_, _], _ => rfl) ?a16e9 ?a17e9 ?a18e9 ?a19e9 ?a20e9 ?a21e9 ?a22e9 ?a23e9 ?a24e9
        case a1e9 => k_is
        case a2e9 => k_is
        case a3e9 => rfl
        case a4e9 => rfl
        case a5e9 => kx_is
        case a6e9 => kx_is
        case a7e9 => k_is
        case a8e9 => k_is
        case a9e9 => k_is
        case a10e9 => k_is
        case a11e9 => k_is
        case a12e9 => k_is
        case a13e9 => k_is
        case a14e9 => k_is
        case a16e9 => k_is
        case a17e9 =>
          intro f hf
          rw [List.mem_singleton.mp hf]
          k_is
        all_goals k_is
      case e10 =>
        refine' K05.er_mk KX G PySem.F.excBase_LookupError PySem.F.store_LookupError rfl ?a1e10 ?a2e10 ?a3e10 ?a4e10 ?a5e10 ?a6e10 ?a7e10 ?a8e10 ?a9e10 ?a10e10 ?a11e10 ?a12e10 ?a13e10 ?a14e10 (fun us hl => match us, hl with | [_, _], _ => rfl) ?a16e10 ?a17e10 ?a18e10 ?a19e10 ?a20e10 ?a21e10 ?a22e10 ?a23e10 ?a24e10
        case a1e10 => k_is
        case a2e10 => k_is
        case a3e10 => rfl
        case a4e10 => rfl
        case a5e10 => kx_is
        case a6e10 => kx_is
        case a7e10 => k_is
        case a8e10 => k_is
        case a9e10 => k_is
        case a10e10 => k_is
        case a11e10 => k_is
        case a12e10 => k_is
        case a13e10 => k_is
        case a14e10 => k_is
        case a16e10 => k_is
        case a17e10 =>
          intro f hf
          rw [List.mem_singleton.mp hf]
          k_is
        all_goals k_is
      case e11 =>
        refine' K05.er_mk KX G PySem.F.excBase_OverflowError PySem.F.store_OverflowError rfl ?a1e11 ?a2e11 ?a3e11 ?a4e11 ?a5e11 ?a6e11 ?a7e11 ?a8e11 ?a9e11 ?a10e11 ?a11e11 ?a12e11 ?a13e11 ?a14e11 (fun us hl => match us, hl with | [_, _], _ => rfl) ?a16e11 ?a17e11 ?a18e11 ?a19e11 ?a20e11 ?a21e11 ?a22e11 ?a23e11 ?a24e11
        case a1e11 => k_is
        case a2e11 => k_is
        case a3e11 => rfl
        case a4e11 => rfl
        case a5e11 => kx_is
        case a6e11 => kx_is
        case a7e11 => k_is
        case a8e11 => k_is
        case a9e11 => k_is
        case a10e11 => k_is
        case a11e11 => k_is
        case a12e11 => k_is
        case a13e11 => k_is
        case a14e11 => k_is
        case a16e11 => k_is
        case a17e11 =>
          intro f hf
          rw [List.mem_singleton.mp hf]
          k_is
        all_goals k_is
      case e12 =>
        refine' K05.er_mk KX G PySem.F.excBase_RuntimeError PySem.F.store_RuntimeError rfl ?a1e12 ?a2e12 ?a3e12 ?a4e12 ?a5e12 ?a6e12 ?a7e12 ?a8e12 ?a9e12 ?a10e12 ?a11e12 ?a12e12 ?a13e12 ?a14e12 (fun us hl => match us, hl with | [_], _ => rfl) ?a16e12 ?a17e12 ?a18e12 ?a19e12 ?a20e12 ?a21e12 ?a22e12 ?a23e12 ?a24e12
        case a1e12 => k_is
        case a2e12 => k_is
        case a3e12 => rfl
        case a4e12 => rfl
        case a5e12 => kx_is
        case a6e12 => kx_is
        case a7e12 => k_is
        case a8e12 => k_is
        case a9e12 => k_is
        case a10e12 => k_is
        case a11e12 => k_is
        case a12e12 => k_is
        case a13e12 => k_is
        case a14e12 => k_is
        case a16e12 => k_is
        case a17e12 =>
          intro f hf
          cases hf
        all_goals k_is
      case g1 =>
        refine' K05.fn0_mk KX G ?a ?l ?c ?k (fun us hl => match us, hl with | [_, _], _ => rfl)
        (case a => k_is); (case l => k_is); (case c => k_is); (case k => k_is)
      case g2 =>
        refine' K05.fn0_mk KX G ?a ?l ?c ?k (fun us hl => match us, hl with | [_, _], _ => rfl)
        (case a => k_is); (case l => k_is); (case c => k_is); (case k => k_is)
      case g3 =>
        refine' K05.fn0_mk KX G ?a ?l ?c ?k (fun us hl => match us, hl with | [_], _ => rfl)
        (case a => k_is); (case l => k_is); (case c => k_is); (case k => k_is)
      case g4 =>
        refine' K05.fn0_mk KX G ?a ?l ?c ?k (fun us hl => match us, hl with | [_], _ => rfl)
        (case a => k_is); (case l => k_is); (case c => k_is); (case k => k_is)
      case g5 =>
        refine' K05.fn0_mk KX G ?a ?l ?c ?k (fun us hl => match us, hl with | [_, _, _, _], _ => rfl)
        (case a => k_is); (case l => k_is); (case c => k_is); (case k => k_is)
      case g6 =>
        refine' K05.fn0_mk KX G ?a ?l ?c ?k (fun us hl => match us, hl with | [_, _], _ => rfl)
        (case a => k_is); (case l => k_is); (case c => k_is); (case k => k_is)
      case g7 =>
        refine' K05.fn0_mk KX G ?a ?l ?c ?k (fun us hl => match us, hl with | [_, _], _ => rfl)
        (case a => k_is); (case l => k_is); (case c => k_is); (case k => k_is)
      case g8 =>
        refine' K05.fn0_mk KX G ?a ?l ?c ?k (fun us hl => match us, hl with | [_], _ => rfl)
        (case a => k_is); (case l => k_is); (case c => k_is); (case k => k_is)
      case g9 =>
        refine' K05.fn0_mk KX G ?a ?l ?c ?k (fun us hl => match us, hl with | [_], _ => rfl)
        (case a => k_is); (case l => k_is); (case c => k_is); (case k => k_is)
      case g10 =>
        refine' K05.fn0_mk KX G ?a ?l ?c ?k (fun us hl => match us, hl with | [_, _, _], _ => rfl)
        (case a => k_is); (case l => k_is); (case c => k_is); (case k => k_is)
  )
