import PyProof.Rows.All
import Wide.All
import OpenK.AllK
import Wide.FinOn
import PyProof.EqAt
import PyProof.EqKinds
import PyProof.TupleCall
import PyProof.ReprRoads
import HandS.Base
import HandS.Call
import HandS.List
import HandS.Comp
import HandS.Ends
import HandS.Dict
import HandS.Iter
import HandS.Text
import HandS.Words
import HandS.Exc
import HandS.TupAny
import HandS.IsInst
import HandS.Zip
import HandS.More
import PyProof.FitsInt
import PyProof.StrLawsRepr
import PyProof.StrBlockL
import HandS.Style
import KE.KRevSl
import HandS.Star
import HandS.BoundList
import HandS.ExcInit
import HandS.WordsExc
import HandS.ExcValue
import HandS.ExcIs
import KE.KIsAll
import KE.KTryMore
import HandS.ExcField
import KE.KExcInit
import HandS.Codes
import HandS.RaiseMore
import PySem.Challenge.RW_readsfrom_k61_programs_called_otherwise
import HandS.Set
import HandS.SetFor
import HandS.Strs
import HandS.Deep
import HandS.SlotsOwn
import HandS.FStr
import HandS.Defaults
import HandS.MakeKwOnly
import HandS.DictComp
import HandS.TupSets
import HandS.TupLe
import KE.KDictZip
import KE.KDictSum
import KE.KExcLine
import HandS.Conv
import PyProof.Rows.StrMeet
import HandS.HeadHook2
set_option Elab.async false
set_option linter.all false
set_option maxRecDepth 100000
set_option maxHeartbeats 4000000
/-! Data over the hand layer: what a piece of a program does to data, its heap hidden. -/
namespace Kp
open PySem PySem.Spec PyProof.Rows L2
/-! ### worlds -/
/-- all that H tracks stands in H' as it was -/
def Ex (H H' : Hp) : Prop := ∀ p u, H p = some u → H' p = some u
theorem Ex.refl (H : Hp) : Ex H H := fun _ _ => id
theorem Ex.trans {H G F : Hp} (e1 : Ex H G) (e2 : Ex G F) : Ex H F := fun p u q => e2 p u (e1 p u q)
theorem Ex.new {H : Hp} {p : Addr} {o : HO} (h : H p = none) : Ex H (upd H p o) := fun a u e => (upd_ne (ne_of_none e h)).trans e
/-- what a slot holds, by its look alone -/
inductive AV where
  | dat (d : PyData)
  | pool
  | buf (ds : List PyData)
  | scr (ns : List Int)
  | err (C : Addr) (ds : List (Str × PyData))
  | at_ (p : Addr)
  | reg (m : List (Str × Int))
  | ins (C : Addr) (fs : List (Str × PyData))
  | nmd (m : List (Str × PyData))
/-- what stands in the store: a def's own lists, tuples, and dicts of numbers by texts -/
inductive Ck where
  | lst
  | tup
  | dct (m : List (Str × Int))
  | ins (C dx : Addr) (ks : List Str)
@[reducible] def Ck.ofB : Bool → Ck
  | false => .lst
  | true => .tup
instance : Coe Bool Ck := ⟨Ck.ofB⟩
abbrev Store := List (Addr × Ck × List AV)
/-- a dict's entries by texts -/
def nmdK (m : List (Str × PyData)) (vs : List V) : List (L2.Key × V) := (m.map fun p => (Sum.inr p.1 : L2.Key)).zip vs
def regK (m : List (Str × Int)) : List (L2.Key × V) := m.map fun p => (.inr p.1, .int p.2)
def hol (b : Ck) (vs : List V) : HO := match b, vs with
  | .lst, vs => .lst vs
  | .tup, vs => .tup vs
  | .dct m, [] => .dK (regK m)
  | .dct _, v :: vs => .lst (v :: vs)
  | .ins C dx ks, vs => .ins C dx (ks.zip vs)
/-- g: what data may lean on; h: what stands; st: the store, where the world is a def's entry -/
structure Wl where
  g : Hp
  h : Hp
  sub : Ex g h
  st : Store
structure Le (w w' : Wl) : Prop where
  g : Ex w.g w'.g
  h : Ex w.h w'.h
  hid : ∀ b, w.h b ≠ none → w.g b = none → w'.g b = none
theorem Le.refl (w : Wl) : Le w w := ⟨Ex.refl _, Ex.refl _, fun _ _ h => h⟩
theorem Le.trans {w w1 w2 : Wl} (a : Le w w1) (b : Le w1 w2) : Le w w2 := ⟨a.g.trans b.g, a.h.trans b.h, fun x h1 h2 => b.hid x (fun q => h1 (by
  cases e : w.h x with
  | none => rfl
  | some o =>
    have := a.h x o e
    rw [this] at q
    cases q)) (a.hid x h1 h2)⟩
theorem Wl.gfree (w : Wl) {p : Addr} (h : w.h p = none) : w.g p = none := by
  cases e : w.g p with
  | none => rfl
  | some o =>
    have := w.sub p o e
    rw [this] at h
    cases h
/-- a new object, data may lean on it -/
def Wl.put (w : Wl) (p : Addr) (o : HO) : Wl := ⟨upd w.g p o, upd w.h p o, fun a u e => by
  by_cases q : a = p
  · subst q
    rw [upd_same] at e ⊢
    exact e
  · rw [upd_ne q] at e ⊢
    exact w.sub a u e, w.st⟩
theorem Le.put {w : Wl} {p : Addr} {o : HO} (h : w.h p = none) : Le w (w.put p o) := ⟨Ex.new (w.gfree h), Ex.new h, fun b h1 h2 => by
  have q : b ≠ p := fun e => h1 (by rw [e]; exact h)
  show upd w.g p o b = none
  rw [upd_ne q]
  exact h2⟩
/-- a new object, hidden from data -/
def Wl.own (w : Wl) (p : Addr) (o : HO) (h : w.g p = none) : Wl := ⟨w.g, upd w.h p o, fun a u e => (upd_ne (ne_of_none e h)).trans (w.sub a u e), w.st⟩
theorem Le.own {w : Wl} {p : Addr} {o : HO} (h : w.h p = none) : Le w (w.own p o (w.gfree h)) := ⟨Ex.refl _, Ex.new h, fun _ _ h2 => h2⟩

/-! ### data -/
mutual
inductive Dd (K : PySem.W.Frag) (H : Hp) : V → PyData → Prop
  | non : Dd K H .non .none
  | bl (b : Bool) : Dd K H (.bl b) (.bool b)
  | int (i : Int) : Dd K H (.int i) (.int i)
  | str (x : Str) : Dd K H (.str x) (.str x)
  | lst {a : Addr} {xs : List V} {ds : List PyData} : H a = some (.lst xs) → DdA K H xs ds → Dd K H (.ref a) (.list ds)
  | tup {a : Addr} {xs : List V} {ds : List PyData} : SqT K H a xs → DdA K H xs ds → Dd K H (.ref a) (.tuple ds)
  | dic {a : Addr} : H a = some (.dK []) → Dd K H (.ref a) (.dict [])
inductive DdA (K : PySem.W.Frag) (H : Hp) : List V → List PyData → Prop
  | nil : DdA K H [] []
  | cons {v : V} {vs : List V} {d : PyData} {ds : List PyData} : Dd K H v d → DdA K H vs ds → DdA K H (v :: vs) (d :: ds)
end
section
variable {K : PySem.W.Frag} {H H' : Hp}
theorem ex_rd {a : Addr} {u : HO} (e : Ex H H') (h : Rd H a u) : Rd H' a u := h.elim (fun h => .inl (e a _ h)) fun ⟨o, h⟩ => .inr ⟨o, e a _ h⟩
theorem ex_l {a : Addr} {xs : List V} (e : Ex H H') (h : SqL K H a xs) : SqL K H' a xs := h.elim (fun h => .inl (ex_rd e h)) .inr
theorem ex_t {a : Addr} {xs : List V} (e : Ex H H') (h : SqT K H a xs) : SqT K H' a xs := h.elim (fun h => .inl (ex_rd e h)) .inr
mutual
theorem Dd.mono (e : Ex H H') : ∀ {d : PyData} {v : V}, Dd K H v d → Dd K H' v d
  | .none, _, .non => .non
  | .bool _, _, .bl b => .bl b
  | .int _, _, .int i => .int i
  | .str _, _, .str x => .str x
  | .list _, _, .lst h a => .lst (e _ _ h) (DdA.mono e a)
  | .tuple _, _, .tup h a => .tup (ex_t e h) (DdA.mono e a)
  | .dict _, _, .dic h => .dic (e _ _ h)
theorem DdA.mono (e : Ex H H') : ∀ {ds : List PyData} {vs : List V}, DdA K H vs ds → DdA K H' vs ds
  | [], _, .nil => .nil
  | _ :: _, _, .cons a b => .cons (Dd.mono e a) (DdA.mono e b)
end
theorem DdA.length : ∀ {vs : List V} {ds : List PyData}, DdA K H vs ds → vs.length = ds.length
  | _, _, .nil => rfl
  | _, _, .cons _ t => congrArg (· + 1) (DdA.length t)
theorem DdA.append : ∀ {vs us : List V} {ds es : List PyData}, DdA K H vs ds → DdA K H us es → DdA K H (vs ++ us) (ds ++ es)
  | _, _, _, _, .nil, h => h
  | _, _, _, _, .cons a t, h => .cons a (DdA.append t h)
theorem DdA.get : ∀ {vs : List V} {ds : List PyData} {i : Nat} {d : PyData}, DdA K H vs ds → ds[i]? = some d → ∃ v, vs[i]? = some v ∧ Dd K H v d
  | _, _, _, _, .nil, q => by simp at q
  | _, _, 0, _, .cons a _, e => ⟨_, rfl, by rw [← Option.some.inj (show some _ = some _ from e)]; exact a⟩
  | _, _, i + 1, d, .cons _ t, e => DdA.get (i := i) t (by simpa using e)
theorem DdA.getV : ∀ {vs : List V} {ds : List PyData} {i : Nat} {v : V}, DdA K H vs ds → vs[i]? = some v → ∃ d, ds[i]? = some d ∧ Dd K H v d
  | _, _, _, _, .nil, q => by simp at q
  | _, _, 0, _, .cons a _, e => ⟨_, rfl, by rw [← Option.some.inj (show some _ = some _ from e)]; exact a⟩
  | _, _, i + 1, d, .cons _ t, e => DdA.getV (i := i) t (by simpa using e)
theorem DdA.take : ∀ {vs : List V} {ds : List PyData} (n : Nat), DdA K H vs ds → DdA K H (vs.take n) (ds.take n)
  | _, _, 0, _ => .nil
  | _, _, _ + 1, .nil => .nil
  | _, _, n + 1, .cons a t => .cons a (DdA.take n t)
theorem DdA.drop : ∀ {vs : List V} {ds : List PyData} (n : Nat), DdA K H vs ds → DdA K H (vs.drop n) (ds.drop n)
  | _, _, 0, h => h
  | _, _, _ + 1, .nil => .nil
  | _, _, n + 1, .cons _ t => DdA.drop n t
theorem DdA.erase : ∀ {vs : List V} {ds : List PyData} (n : Nat), DdA K H vs ds → DdA K H (vs.eraseIdx n) (ds.eraseIdx n)
  | _, _, _, .nil => .nil
  | _, _, 0, .cons _ t => t
  | _, _, n + 1, .cons a t => .cons a (DdA.erase n t)
theorem DdA.rev : ∀ {vs : List V} {ds : List PyData}, DdA K H vs ds → DdA K H vs.reverse ds.reverse
  | _, _, .nil => .nil
  | _, _, .cons a t => by
    simp only [List.reverse_cons]
    exact DdA.append (DdA.rev t) (.cons a .nil)
theorem DdA.strs : ∀ {ys : List Str} {vs : List V}, DdA K H vs (ys.map .str) → vs = ys.map V.str
  | [], _, .nil => rfl
  | _ :: _, _, .cons a t => by
    cases a
    rw [DdA.strs t]
    rfl
theorem DdA.ofStrs : ∀ (ys : List Str), DdA K H (ys.map V.str) (ys.map .str)
  | [] => .nil
  | y :: ys => .cons (.str y) (DdA.ofStrs ys)
theorem DdA.bls : ∀ {ys : List Bool} {vs : List V}, DdA K H vs (ys.map .bool) → vs = ys.map V.bl
  | [], _, .nil => rfl
  | _ :: _, _, .cons a t => by
    cases a
    rw [DdA.bls t]
    rfl
theorem DdA.ofBls : ∀ (ys : List Bool), DdA K H (ys.map V.bl) (ys.map .bool)
  | [] => .nil
  | y :: ys => .cons (.bl y) (DdA.ofBls ys)
theorem DdA.ofInts : ∀ (ys : List Int), DdA K H (ys.map V.int) (ys.map .int)
  | [] => .nil
  | y :: ys => .cons (.int y) (DdA.ofInts ys)
theorem DdA.ints : ∀ {ys : List Int} {vs : List V}, DdA K H vs (ys.map .int) → vs = ys.map V.int
  | [], _, .nil => rfl
  | _ :: _, _, .cons a t => by
    cases a
    rw [DdA.ints t]
    rfl
end

/-! ### abstract values and states -/
/-- PL p: the two ints of a pool, whatever they are within their bounds -/
def PL (p : Addr) : HO := .ext fun h => ∃ x y : Int, (0 ≤ y ∧ y < 2147483647) ∧ ∃ (its : List Value) (n : Nat), Vals [.int x, .int y] its ∧ h.get? p = some { cls := .type "list", data := .seq its.toArray n }
/-- at a: an error of the class cls whose own dict is d -/
def ExK (cls : Value) (d : Option Addr) (a : Addr) : HO := .ext fun h => ∃ (oe : Obj) (vs : Array Value), h.get? a = some oe ∧ Zc cls d oe ∧ oe.data = .fields vs
/-- an error's fields as data -/
def FdA (K : PySem.W.Frag) (H : Hp) (fs : List (Str × V)) (ds : List (Str × PyData)) : Prop := fs.map (·.1) = ds.map (·.1) ∧ DdA K H (fs.map (·.2)) (ds.map (·.2))
theorem FdA.mono {K : PySem.W.Frag} {H H' : Hp} {fs : List (Str × V)} {ds : List (Str × PyData)} (e : Ex H H') (h : FdA K H fs ds) : FdA K H' fs ds := ⟨h.1, h.2.mono e⟩
/-- an error's own dict: none where it has no field -/
def XdO (H : Hp) (fs : List (Str × V)) : Option Addr → Prop
  | some d => H d = some (.xd fs)
  | none => fs = []
theorem XdO.mono {H H' : Hp} {fs : List (Str × V)} {d : Option Addr} (e : Ex H H') (h : XdO H fs d) : XdO H' fs d := by
  cases d with
  | some d => exact e _ _ h
  | none => exact h
/-- v is so in the world w -/
def Av (K : PySem.W.Frag) (w : Wl) (v : V) : AV → Prop
  | .dat d => Dd K w.g v d
  | .pool => ∃ p, v = .ref p ∧ w.g p = some (PL p)
  | .buf ds => ∃ a vs, v = .ref a ∧ w.h a = some (.lst vs) ∧ w.g a = none ∧ DdA K w.g vs ds
  | .scr ns => ∃ a, v = .ref a ∧ SqL K w.g a (ns.map V.int)
  | .err C ds => ∃ (a : Addr) (d : Option Addr) (fs : List (Str × V)), v = .ref a ∧ w.g a = some (ExK (.ref C) d a) ∧ XdO w.g fs d ∧ FdA K w.g fs ds
  | .at_ p => v = .ref p
  | .reg m => ∃ a, v = .ref a ∧ w.g a = some (.dK (regK m))
  | .nmd m => ∃ a vs, v = .ref a ∧ w.g a = some (.dK (nmdK m vs)) ∧ DdA K w.g vs (m.map (·.2))
  | .ins C ds => ∃ (a dx : Addr) (fs : List (Str × V)), v = .ref a ∧ w.g a = some (.ins C dx fs) ∧ FdA K w.g fs ds
def AV.plain : AV → Bool
  | .buf _ => false
  | _ => true
inductive AvA (K : PySem.W.Frag) (w : Wl) : List V → List AV → Prop
  | nil : AvA K w [] []
  | cons {v : V} {vs : List V} {a : AV} {as : List AV} : Av K w v a → AvA K w vs as → AvA K w (v :: vs) (a :: as)
abbrev SS := List (Option AV)
/-- the store stands -/
structure SOk (K : PySem.W.Frag) (w0 w : Wl) : Prop where
  own : ∀ p b as, (p, b, as) ∈ w0.st → w0.h p = none ∧ as.all AV.plain = true ∧ ∃ vs, w.h p = some (hol b vs) ∧ w.g p = none ∧ AvA K w vs as
  nd : (w0.st.map (·.1)).Nodup
/-- the slots hold what ss says; w0: the world at the def's entry; what is hidden is younger -/
structure Sl (K : PySem.W.Frag) (w0 w : Wl) (σ : L2.St) (ss : SS) : Prop where
  le : Le w0 w
  len : σ.length = ss.length
  at_ : ∀ (i : Nat) (a : AV), ss[i]? = some (some a) → ∃ v, σ[i]? = some (some v) ∧ Av K w v a
  ap : ∀ (i j : Nat) (ds es : List PyData) (v : V), i ≠ j → ss[i]? = some (some (AV.buf ds)) → ss[j]? = some (some (AV.buf es)) → σ[i]? = some (some v) → σ[j]? ≠ some (some v)
  fr : ∀ (i : Nat) (ds : List PyData) (p : Addr), ss[i]? = some (some (AV.buf ds)) → σ[i]? = some (some (V.ref p)) → w0.h p = none
  so : SOk K w0 w
  sd : ∀ (i : Nat) (ds : List PyData) (p : Addr), ss[i]? = some (some (AV.buf ds)) → σ[i]? = some (some (V.ref p)) → ∀ b as, (p, b, as) ∉ w0.st
section
variable {K : PySem.W.Frag} {w0 w w' : Wl} {σ : L2.St} {ss : SS} {v : V} {a : AV}
theorem Av.mono (e : Le w w') (h : Av K w v a) : Av K w' v a := by
  cases a with
  | dat d => exact Dd.mono e.g h
  | pool =>
    obtain ⟨p, rfl, hp⟩ := h
    exact ⟨p, rfl, e.g _ _ hp⟩
  | buf ds =>
    obtain ⟨a, vs, rfl, h1, h2, h3⟩ := h
    exact ⟨a, vs, rfl, e.h _ _ h1, e.hid a (by rw [h1]; simp) h2, h3.mono e.g⟩
  | scr ns =>
    obtain ⟨a, rfl, h1⟩ := h
    exact ⟨a, rfl, ex_l e.g h1⟩
  | err C ds =>
    obtain ⟨a, d, fs, rfl, h1, h2, h3⟩ := h
    exact ⟨a, d, fs, rfl, e.g _ _ h1, h2.mono e.g, h3.mono e.g⟩
  | at_ p => exact h
  | reg m =>
    obtain ⟨a, rfl, h1⟩ := h
    exact ⟨a, rfl, e.g _ _ h1⟩
  | nmd m =>
    obtain ⟨a, vs, rfl, h1, h2⟩ := h
    exact ⟨a, vs, rfl, e.g _ _ h1, h2.mono e.g⟩
  | ins C ds =>
    obtain ⟨a, dx, fs, rfl, h1, h2⟩ := h
    exact ⟨a, dx, fs, rfl, e.g _ _ h1, h2.mono e.g⟩
theorem Av.monoG {w1 w2 : Wl} {v : V} {a : AV} (e : Ex w1.g w2.g) (hp : a.plain = true) (h : Av K w1 v a) : Av K w2 v a := by
  cases a with
  | dat d => exact Dd.mono e h
  | pool =>
    obtain ⟨p, rfl, hp⟩ := h
    exact ⟨p, rfl, e _ _ hp⟩
  | buf ds => cases hp
  | scr ns =>
    obtain ⟨a, rfl, h1⟩ := h
    exact ⟨a, rfl, ex_l e h1⟩
  | err C ds =>
    obtain ⟨a, d, fs, rfl, h1, h2, h3⟩ := h
    exact ⟨a, d, fs, rfl, e _ _ h1, h2.mono e, h3.mono e⟩
  | at_ p => exact h
  | reg m =>
    obtain ⟨a, rfl, h1⟩ := h
    exact ⟨a, rfl, e _ _ h1⟩
  | nmd m =>
    obtain ⟨a, vs, rfl, h1, h2⟩ := h
    exact ⟨a, vs, rfl, e _ _ h1, h2.mono e⟩
  | ins C ds =>
    obtain ⟨a, dx, fs, rfl, h1, h2⟩ := h
    exact ⟨a, dx, fs, rfl, e _ _ h1, h2.mono e⟩
theorem AvA.monoG {w1 w2 : Wl} (e : Ex w1.g w2.g) : ∀ {vs : List V} {as : List AV}, as.all AV.plain = true → AvA K w1 vs as → AvA K w2 vs as
  | _, _, _, .nil => .nil
  | _, _, hp, .cons a t => by
    rw [List.all_cons, Bool.and_eq_true] at hp
    exact .cons (a.monoG e hp.1) (AvA.monoG e hp.2 t)
theorem AvA.mono (e : Le w w') : ∀ {vs : List V} {as : List AV}, AvA K w vs as → AvA K w' vs as
  | _, _, .nil => .nil
  | _, _, .cons a t => .cons (a.mono e) (AvA.mono e t)
theorem SOk.mono (h : SOk K w0 w) (e : Le w w') : SOk K w0 w' := ⟨fun p b as q => by
  obtain ⟨h0, hp, vs, h1, h2, h3⟩ := h.own p b as q
  exact ⟨h0, hp, vs, e.h _ _ h1, e.hid p (by rw [h1]; simp) h2, h3.mono e⟩, h.nd⟩
/-- the worlds differ at a place alone that the store doesn't speak of -/
theorem SOk.away (h : SOk K w0 w) {q : Addr} (hq : ∀ b as, (q, b, as) ∉ w0.st) (eg : Ex w.g w'.g) (hh : ∀ b, b ≠ q → w'.h b = w.h b) (hg : ∀ b, b ≠ q → w'.g b = w.g b) : SOk K w0 w' := ⟨fun p b as m => by
  obtain ⟨h0, hp, vs, h1, h2, h3⟩ := h.own p b as m
  have ne : p ≠ q := fun z => hq b as (by rw [← z]; exact m)
  exact ⟨h0, hp, vs, by rw [hh p ne]; exact h1, by rw [hg p ne]; exact h2, h3.monoG eg hp⟩, h.nd⟩
theorem Sl.mono (e : Le w w') (h : Sl K w0 w σ ss) : Sl K w0 w' σ ss := ⟨h.le.trans e, h.len, fun i a q => let ⟨v, h1, h2⟩ := h.at_ i a q; ⟨v, h1, h2.mono e⟩, h.ap, h.fr, h.so.mono e, h.sd⟩
theorem set_lt {α : Type} {l : List α} {i : Nat} {x y : α} (h : (l.set i x)[i]? = some y) : i < l.length := by
  have := (List.getElem?_eq_some_iff.mp h).1
  simpa using this
/-- a slot is stored: no buf -/
theorem Sl.set (h : Sl K w0 w σ ss) (i : Nat) (hp : a.plain = true) (q : Av K w v a) : Sl K w0 w (σ.set i (some v)) (ss.set i (some a)) := by
  have nb : ∀ {j : Nat} {ds : List PyData}, (ss.set i (some a))[j]? = some (some (AV.buf ds)) → i ≠ j := fun {j ds} e z => by
    subst z
    rw [List.getElem?_set_self (set_lt e)] at e
    cases e
    cases hp
  refine ⟨h.le, by rw [List.length_set, List.length_set]; exact h.len, fun j b e => ?_, fun j k ds es u hjk e1 e2 e3 => ?_, fun j ds p e1 e2 => ?_, h.so, fun j ds p e1 e2 => ?_⟩
  · by_cases hj : i = j
    · subst hj
      have hi := set_lt e
      rw [List.getElem?_set_self hi] at e
      cases e
      exact ⟨v, by rw [List.getElem?_set_self (by rw [h.len]; exact hi)], q⟩
    · rw [List.getElem?_set_ne hj] at e
      obtain ⟨u, h1, h2⟩ := h.at_ j b e
      exact ⟨u, by rw [List.getElem?_set_ne hj]; exact h1, h2⟩
  · have n1 := nb e1
    have n2 := nb e2
    rw [List.getElem?_set_ne n1] at e1 e3
    rw [List.getElem?_set_ne n2] at e2 ⊢
    exact h.ap j k ds es u hjk e1 e2 e3
  · have n1 := nb e1
    rw [List.getElem?_set_ne n1] at e1 e2
    exact h.fr j ds p e1 e2
  · have n1 := nb e1
    rw [List.getElem?_set_ne n1] at e1 e2
    exact h.sd j ds p e1 e2
/-- a slot gets a new hidden list -/
theorem Sl.setN {p : Addr} {vs : List V} {ds : List PyData} (h : Sl K w0 w σ ss) (i : Nat) (hn : w.h p = none) (e : Le w w') (h1 : w'.h p = some (.lst vs)) (h2 : w'.g p = none) (h3 : DdA K w'.g vs ds) :
    Sl K w0 w' (σ.set i (some (.ref p))) (ss.set i (some (.buf ds))) := by
  have hm := h.mono e
  have old : ∀ {j : Nat} {es : List PyData}, ss[j]? = some (some (AV.buf es)) → σ[j]? ≠ some (some (V.ref p)) := fun {j es} q z => by
    obtain ⟨v, z1, a, us, z2, z3, _⟩ := h.at_ j _ q
    rw [z1] at z
    cases z
    cases z2
    rw [hn] at z3
    cases z3
  refine ⟨hm.le, by rw [List.length_set, List.length_set]; exact h.len, fun j b q => ?_, fun j k ds1 ds2 u hjk e1 e2 e3 => ?_, fun j ds1 a e1 e2 => ?_, hm.so, fun j ds1 a e1 e2 => ?_⟩
  · by_cases hj : i = j
    · subst hj
      have hi := set_lt q
      rw [List.getElem?_set_self hi] at q
      cases q
      exact ⟨_, by rw [List.getElem?_set_self (by rw [h.len]; exact hi)], p, vs, rfl, h1, h2, h3⟩
    · rw [List.getElem?_set_ne hj] at q
      obtain ⟨u, g1, g2⟩ := hm.at_ j b q
      exact ⟨u, by rw [List.getElem?_set_ne hj]; exact g1, g2⟩
  · by_cases hj : i = j
    · subst hj
      have hi := set_lt e3
      rw [List.getElem?_set_self hi] at e3
      cases e3
      rw [List.getElem?_set_ne hjk] at e2 ⊢
      exact old e2
    · rw [List.getElem?_set_ne hj] at e1 e3
      by_cases hk : i = k
      · subst hk
        have hi := set_lt e2
        rw [List.getElem?_set_self (by rw [h.len]; exact hi)]
        intro z
        cases z
        exact old e1 e3
      · rw [List.getElem?_set_ne hk] at e2 ⊢
        exact h.ap j k ds1 ds2 u hjk e1 e2 e3
  · by_cases hj : i = j
    · subst hj
      have hi := set_lt e2
      rw [List.getElem?_set_self hi] at e2
      cases e2
      cases q : w0.h p with
      | none => rfl
      | some o =>
        have := h.le.h p o q
        rw [hn] at this
        cases this
    · rw [List.getElem?_set_ne hj] at e1 e2
      exact h.fr j ds1 a e1 e2
  · by_cases hj : i = j
    · subst hj
      have hi := set_lt e1
      rw [List.getElem?_set_self (by rw [h.len]; exact hi)] at e2
      cases e2
      intro b as m
      obtain ⟨_, _, vs, z, _⟩ := h.so.own p b as m
      rw [hn] at z
      cases z
    · rw [List.getElem?_set_ne hj] at e1 e2
      exact h.sd j ds1 a e1 e2
end
end Kp


namespace Kp
open PySem PySem.Spec PyProof.Rows L2
/-! ### readings over abstract states -/
def teOf (K : PySem.W.Frag) (w0 : Wl) (ss : SS) (R : AV → Prop) : TE := fun σ H Q => ∃ w : Wl, w.h = H ∧ Sl K w0 w σ ss ∧ ∀ v a w', Le w w' → Av K w' v a → R a → Q v w'.h
def ttOf (K : PySem.W.Frag) (w0 : Wl) (ss : SS) (R : Bool → Prop) : TT := fun σ H Q => ∃ w : Wl, w.h = H ∧ Sl K w0 w σ ss ∧ ∀ b w', Le w w' → R b → Q b w'.h
def taOf (K : PySem.W.Frag) (w0 : Wl) (ss : SS) (R : List AV → Prop) : TA := fun σ H Q => ∃ w : Wl, w.h = H ∧ Sl K w0 w σ ss ∧ ∀ vs as w', Le w w' → AvA K w' vs as → R as → Q vs w'.h
/-- a new list, nothing leans on it yet -/
def tnOf (K : PySem.W.Frag) (w0 : Wl) (ss : SS) (R : List PyData → Prop) : TE := fun σ H Q => ∃ w : Wl, w.h = H ∧ Sl K w0 w σ ss ∧
  ∀ p vs ds w', Le w w' → w.h p = none → w'.h p = some (.lst vs) → w'.g p = none → DdA K w'.g vs ds → R ds → Q (.ref p) w'.h
structure AN where
  nx : SS → Prop
  rt : AV → Prop
  bk : SS → Prop := fun _ => False
  ct : SS → Prop := fun _ => False
structure EndsOk (K : PySem.W.Frag) (w0 : Wl) (g0 : Hp) (N : AN) (D : Ends) : Prop where
  nx : ∀ σ' ss' w', Ex g0 w'.g → Sl K w0 w' σ' ss' → N.nx ss' → D.nx σ' w'.h
  rt : ∀ v a w', Ex g0 w'.g → Le w0 w' → Av K w' v a → N.rt a → D.rt v w'.h
  bk : ∀ σ' ss' w', Ex g0 w'.g → Sl K w0 w' σ' ss' → N.bk ss' → D.bk σ' w'.h
  ct : ∀ σ' ss' w', Ex g0 w'.g → Sl K w0 w' σ' ss' → N.ct ss' → D.ct σ' w'.h
theorem EndsOk.mono {K : PySem.W.Frag} {w0 : Wl} {g0 g1 : Hp} {N : AN} {D : Ends} (h : EndsOk K w0 g0 N D) (e : Ex g0 g1) : EndsOk K w0 g1 N D :=
  ⟨fun σ' ss' w' x => h.nx σ' ss' w' (e.trans x), fun v a w' x => h.rt v a w' (e.trans x), fun σ' ss' w' x => h.bk σ' ss' w' (e.trans x), fun σ' ss' w' x => h.ct σ' ss' w' (e.trans x)⟩
def tsOf (K : PySem.W.Frag) (w0 : Wl) (ss : SS) (N : AN) : TS := fun D σ H => ∃ w : Wl, w.h = H ∧ Sl K w0 w σ ss ∧ EndsOk K w0 w.g N D
abbrev KE (X : Cx) (w0 : Wl) (e : Expr) (ss : SS) (R : AV → Prop) : Prop := PE X e (teOf X.K w0 ss R)
abbrev KT (X : Cx) (w0 : Wl) (e : Expr) (ss : SS) (R : Bool → Prop) : Prop := PT X e (ttOf X.K w0 ss R)
abbrev KW (X : Cx) (w0 : Wl) (e : Expr) (ss : SS) (R : Bool → Prop) : Prop := PW X e (ttOf X.K w0 ss R)
abbrev KA (X : Cx) (w0 : Wl) (es : List Expr) (ss : SS) (R : List AV → Prop) : Prop := PA X es (taOf X.K w0 ss R)
abbrev KN (X : Cx) (w0 : Wl) (e : Expr) (ss : SS) (R : List PyData → Prop) : Prop := PE X e (tnOf X.K w0 ss R)
abbrev KS (X : Cx) (w0 : Wl) (s : Stmt) (ss : SS) (N : AN) : Prop := PS X s (tsOf X.K w0 ss N)
abbrev KSs (X : Cx) (w0 : Wl) (s : List Stmt) (ss : SS) (N : AN) : Prop := PSs X s (tsOf X.K w0 ss N)
section
variable {X : Cx}
theorem PE.imp {e : Expr} {t t' : TE} (h : PE X e t) (k : ∀ σ H Q, t' σ H Q → t σ H Q) : PE X e t' := ⟨fun pins s σ H Q I q => h.run pins s σ H Q I (k σ H Q q)⟩
theorem PT.imp {e : Expr} {t t' : TT} (h : PT X e t) (k : ∀ σ H Q, t' σ H Q → t σ H Q) : PT X e t' := ⟨fun pins s σ H Q I q => h.run pins s σ H Q I (k σ H Q q)⟩
theorem PW.imp {e : Expr} {t t' : TT} (h : PW X e t) (k : ∀ σ H Q, t' σ H Q → t σ H Q) : PW X e t' := ⟨fun wh pins s σ H Q I q => h.run wh pins s σ H Q I (k σ H Q q)⟩
theorem PA.imp {e : List Expr} {t t' : TA} (h : PA X e t) (k : ∀ σ H Q, t' σ H Q → t σ H Q) : PA X e t' := ⟨fun pos pins s σ H Q I q => h.run pos pins s σ H Q I (k σ H Q q)⟩
theorem PS.imp {e : Stmt} {t t' : TS} (h : PS X e t) (k : ∀ D σ H, t' D σ H → t D σ H) : PS X e t' := ⟨fun pins s σ H D I q => h.run pins s σ H D I (k D σ H q)⟩
theorem PSs.imp {e : List Stmt} {t t' : TS} (h : PSs X e t) (k : ∀ D σ H, t' D σ H → t D σ H) : PSs X e t' := ⟨fun pins s σ H D I q => h.run pins s σ H D I (k D σ H q)⟩
/-- whatever is shown of it -/
def anE (X : Cx) (w0 : Wl) (e : Expr) (ss : SS) : TE := fun σ H Q => ∃ R, KE X w0 e ss R ∧ teOf X.K w0 ss R σ H Q
def anT (X : Cx) (w0 : Wl) (e : Expr) (ss : SS) : TT := fun σ H Q => ∃ R, KT X w0 e ss R ∧ ttOf X.K w0 ss R σ H Q
def anW (X : Cx) (w0 : Wl) (e : Expr) (ss : SS) : TT := fun σ H Q => ∃ R, KW X w0 e ss R ∧ ttOf X.K w0 ss R σ H Q
def anA (X : Cx) (w0 : Wl) (e : List Expr) (ss : SS) : TA := fun σ H Q => ∃ R, KA X w0 e ss R ∧ taOf X.K w0 ss R σ H Q
def anN (X : Cx) (w0 : Wl) (e : Expr) (ss : SS) : TE := fun σ H Q => ∃ R, KN X w0 e ss R ∧ tnOf X.K w0 ss R σ H Q
def anSs (X : Cx) (w0 : Wl) (e : List Stmt) : TS := fun D σ H => ∃ ss N, KSs X w0 e ss N ∧ tsOf X.K w0 ss N D σ H
variable {w0 : Wl} {ss : SS}
theorem pe_an {e : Expr} : PE X e (anE X w0 e ss) := ⟨fun pins s σ H Q I ⟨R, h, q⟩ => h.run pins s σ H Q I q⟩
theorem pt_an {e : Expr} : PT X e (anT X w0 e ss) := ⟨fun pins s σ H Q I ⟨R, h, q⟩ => h.run pins s σ H Q I q⟩
theorem pw_an {e : Expr} : PW X e (anW X w0 e ss) := ⟨fun wh pins s σ H Q I ⟨R, h, q⟩ => h.run wh pins s σ H Q I q⟩
theorem pa_an {e : List Expr} : PA X e (anA X w0 e ss) := ⟨fun pos pins s σ H Q I ⟨R, h, q⟩ => h.run pos pins s σ H Q I q⟩
theorem pn_an {e : Expr} : PE X e (anN X w0 e ss) := ⟨fun pins s σ H Q I ⟨R, h, q⟩ => h.run pins s σ H Q I q⟩
theorem pss_an {e : List Stmt} : PSs X e (anSs X w0 e) := ⟨fun pins s σ H Q I ⟨_, _, h, q⟩ => h.run pins s σ H Q I q⟩
theorem KE.weak {e : Expr} {R R' : AV → Prop} (h : KE X w0 e ss R) (k : ∀ a, R a → R' a) : KE X w0 e ss R' :=
  PE.imp h fun σ H Q ⟨w, e, hs, q⟩ => ⟨w, e, hs, fun v a w' l x y => q v a w' l x (k a y)⟩
theorem KT.weak {e : Expr} {R R' : Bool → Prop} (h : KT X w0 e ss R) (k : ∀ a, R a → R' a) : KT X w0 e ss R' :=
  PT.imp h fun σ H Q ⟨w, e, hs, q⟩ => ⟨w, e, hs, fun a w' l y => q a w' l (k a y)⟩

/-! ### what a value must be -/
abbrev onDat (a : AV) (P : PyData → Prop) : Prop := match a with | .dat d => P d | _ => False
abbrev onInt (a : AV) (P : Int → Prop) : Prop := match a with | .dat (.int i) => P i | _ => False
abbrev onBool (a : AV) (P : Bool → Prop) : Prop := match a with | .dat (.bool b) => P b | _ => False
def onDats : List AV → (List PyData → Prop) → Prop
  | [], P => P []
  | .dat d :: as, P => onDats as fun ds => P (d :: ds)
  | _ :: _, _ => False
theorem onDat.of {a : AV} {P : PyData → Prop} (h : onDat a P) : ∃ d, a = .dat d ∧ P d := by
  cases a with
  | dat d => exact ⟨d, rfl, h⟩
  | _ => exact h.elim
theorem onInt.of {a : AV} {P : Int → Prop} (h : onInt a P) : ∃ d, a = .dat (.int d) ∧ P d := by
  unfold onInt at h
  split at h
  · exact ⟨_, rfl, h⟩
  · exact h.elim
theorem onBool.of {a : AV} {P : Bool → Prop} (h : onBool a P) : ∃ d, a = .dat (.bool d) ∧ P d := by
  unfold onBool at h
  split at h
  · exact ⟨_, rfl, h⟩
  · exact h.elim
theorem onDats.of : ∀ {as : List AV} {P : List PyData → Prop}, onDats as P → ∃ ds, as = ds.map .dat ∧ P ds
  | [], P, h => ⟨[], rfl, h⟩
  | .dat d :: as, P, h => by
    obtain ⟨ds, e, q⟩ := onDats.of (as := as) h
    exact ⟨d :: ds, by rw [e]; rfl, q⟩
  | .pool :: _, _, h => h.elim
  | .buf _ :: _, _, h => h.elim
  | .scr _ :: _, _, h => h.elim
  | .err _ _ :: _, _, h => h.elim
  | .at_ _ :: _, _, h => h.elim
  | .reg _ :: _, _, h => h.elim
  | .nmd _ :: _, _, h => h.elim
theorem AvA.dats {K : PySem.W.Frag} {w : Wl} : ∀ {ds : List PyData} {vs : List V}, AvA K w vs (ds.map .dat) → DdA K w.g vs ds
  | [], _, .nil => .nil
  | _ :: _, _, .cons a t => .cons a (AvA.dats t)

/-! ### leaves -/
theorem Le.ofSl {K : PySem.W.Frag} {w : Wl} {σ : L2.St} (h : Sl K w0 w σ ss) : Le w0 w := h.le
theorem k_var (i : Nat) {x : Str} {pos : Pos} {a : AV} {R : AV → Prop} (hN : X.N[i]? = some x) (ha : ss[i]? = some (some a)) (hR : R a)
    (hv : Vis X.env.scope x := by first | exact Or.inl rfl | exact Or.inr (Or.inl rfl) | exact Or.inr (Or.inr rfl)) (hd : (x == ("__debug__" : Str)) = false := by decide)
    (hcd : (x == ("__classdict__" : Str)) = false := by decide) : KE X w0 (.Name x pos) ss R :=
  PE.imp (pe_var hN hv hd hcd) fun σ H Q ⟨w, e, hs, q⟩ => by
    subst e
    obtain ⟨v, h1, h2⟩ := hs.at_ i a ha
    exact ⟨v, h1, q v a w (Le.refl w) h2 hR⟩
theorem k_c {e : Expr} {v : V} {d : PyData} {R : AV → Prop} (h : PE X e (tC v)) (hd : ∀ w : Wl, Dd X.K w.g v d) (hR : R (.dat d)) : KE X w0 e ss R :=
  PE.imp h fun σ H Q ⟨w, e, hs, q⟩ => by
    subst e
    exact q v (.dat d) w (Le.refl w) (hd w) hR
theorem k_int {i : Int} {j : Nat} {pos : Pos} {R : AV → Prop} (hR : R (.dat (.int i))) : KE X w0 (.Constant (.int i) j pos) ss R := k_c pe_int (fun _ => .int i) hR
theorem k_bl {i : Bool} {j : Nat} {pos : Pos} {R : AV → Prop} (hR : R (.dat (.bool i))) : KE X w0 (.Constant (.bool i) j pos) ss R := k_c pe_bl (fun _ => .bl i) hR
theorem k_str {i : Str} {j : Nat} {pos : Pos} {R : AV → Prop} (hR : R (.dat (.str i))) : KE X w0 (.Constant (.str i) j pos) ss R := k_c pe_str (fun _ => .str i) hR
theorem k_non {j : Nat} {pos : Pos} {R : AV → Prop} (hR : R (.dat .none)) : KE X w0 (.Constant .none j pos) ss R := k_c pe_non (fun _ => .non) hR
theorem ka_nil {R : List AV → Prop} (hR : R []) : KA X w0 [] ss R :=
  PA.imp pa_nil fun σ H Q ⟨w, e, hs, q⟩ => by
    subst e
    exact q [] [] w (Le.refl w) .nil hR
theorem ka_cons {e : Expr} {es : List Expr} {R : List AV → Prop} (h : KE X w0 e ss fun a => KA X w0 es ss fun as => R (a :: as)) (hs : starEach (e :: es) X.env = (false, eval e X.env) :: starEach es X.env := by rfl) : KA X w0 (e :: es) ss R :=
  PA.imp (pa_cons h pa_an hs) fun σ H Q ⟨w, ew, hsl, q⟩ => by
    refine ⟨w, ew, hsl, fun v a w1 l1 hv hk => ⟨_, hk, w1, rfl, hsl.mono l1, fun vs as w2 l2 hvs hr => ?_⟩⟩
    exact q (v :: vs) (a :: as) w2 (l1.trans l2) (.cons (hv.mono l2) hvs) hr

/-! ### operations by values -/
def DR (K : PySem.W.Frag) (r : R2) (x y : AV) (R : AV → Prop) : Prop := ∀ vx vy w Q, Av K w vx x → Av K w vy y → (∀ v a w', Le w w' → Av K w' v a → R a → Q v w'.h) → r vx vy w.h Q
def DU (K : PySem.W.Frag) (r : V → Hp → VK → Prop) (x : AV) (R : AV → Prop) : Prop := ∀ vx w Q, Av K w vx x → (∀ v a w', Le w w' → Av K w' v a → R a → Q v w'.h) → r vx w.h Q
def DC (K : PySem.W.Frag) (r : List V → Hp → VK → Prop) (xs : List AV) (R : AV → Prop) : Prop := ∀ vs w Q, AvA K w vs xs → (∀ v a w', Le w w' → Av K w' v a → R a → Q v w'.h) → r vs w.h Q
theorem op2 {r : R2} {a b : Expr} {R : AV → Prop} {σ : L2.St} {H : Hp} {Q : VK} (h : teOf X.K w0 ss (fun x => KE X w0 b ss fun y => DR X.K r x y R) σ H (fun _ _ => True) ∨ True) : True := trivial
theorem k_opG {e a b : Expr} {r : R2} {R : AV → Prop} (hp : PE X e (tOp r (teOf X.K w0 ss fun x => KE X w0 b ss fun y => DR X.K r x y R) (anE X w0 b ss))) : KE X w0 e ss R :=
  PE.imp hp fun σ H Q ⟨w, ew, hs, q⟩ => ⟨w, ew, hs, fun v a w1 l1 hv hk => ⟨_, hk, w1, rfl, hs.mono l1, fun v2 a2 w2 l2 hv2 hd => hd v v2 w2 Q (hv.mono l2) hv2 fun v3 a3 w3 l3 h3 r3 => q v3 a3 w3 (l1.trans (l2.trans l3)) h3 r3⟩⟩
theorem k_op {a b : Expr} {op : Operator} {pos : Pos} {r : R2} {R : AV → Prop} (ho : OpR X (binaryOp op) r) (h : KE X w0 a ss fun x => KE X w0 b ss fun y => DR X.K r x y R) : KE X w0 (.BinOp a op b pos) ss R :=
  k_opG (a := a) (b := b) (pe_op ho h pe_an)
theorem k_cmp {a b : Expr} {op : CmpOp} {pos : Pos} {r : R2} {R : AV → Prop} (ho : OpR X (compareOp op) r) (hm : behindInMarks op b = false) (h : KE X w0 a ss fun x => KE X w0 b ss fun y => DR X.K r x y R) : KE X w0 (.Compare a [op] [b] pos) ss R :=
  k_opG (a := a) (b := b) (pe_cmpR ho h pe_an hm)
theorem k_ix {a b : Expr} {pos : Pos} {r : R2} {R : AV → Prop} (ho : IxR X r) (hp : PlainIx b) (h : KE X w0 a ss fun x => KE X w0 b ss fun y => DR X.K r x y R) : KE X w0 (.Subscript a b pos) ss R :=
  k_opG (a := a) (b := b) (pe_ix ho h pe_an hp)
theorem kt_cmp {a b : Expr} {op : CmpOp} {pos : Pos} {r : R2} {R : Bool → Prop} (ho : OpR X (compareOp op) r) (hm : behindInMarks op b = false) (h : KE X w0 a ss fun x => KE X w0 b ss fun y => DR X.K r x y fun z => onBool z R) : KT X w0 (.Compare a [op] [b] pos) ss R :=
  PT.imp (pt_cmpR ho h pe_an hm) fun σ H Q ⟨w, ew, hs, q⟩ => ⟨w, ew, hs, fun v a w1 l1 hv hk => ⟨_, hk, w1, rfl, hs.mono l1, fun v2 a2 w2 l2 hv2 hd => hd v v2 w2 _ (hv.mono l2) hv2 fun v3 a3 w3 l3 h3 r3 => by
    obtain ⟨b, rfl, hb⟩ := onBool.of r3
    cases h3
    exact ⟨b, rfl, q b w3 (l1.trans (l2.trans l3)) hb⟩⟩⟩
theorem kt_val {e : Expr} {R : Bool → Prop} (h : KE X w0 e ss fun a => onBool a R) (he : ∀ whole, isTrue e X.env whole = (do let v ← whole; standAt e.pos; holding [v] (truthy v)) := by intro _; rfl) : KT X w0 e ss R :=
  PT.imp (pt_val h he) fun σ H Q ⟨w, ew, hs, q⟩ => ⟨w, ew, hs, fun v a w1 l1 hv hk => by
    obtain ⟨b, rfl, hb⟩ := onBool.of hk
    cases hv
    exact ⟨b, rfl, q b w1 l1 hb⟩⟩
def iteP (b : Bool) (P P' : Prop) : Prop := match b with | true => P | false => P'
theorem iteP.go {b : Bool} {P P' : Prop} (h : iteP b P P') : if b = true then P else P' := by
  cases b
  · rw [if_neg Bool.false_ne_true]; exact h
  · rw [if_pos rfl]; exact h
theorem kt_not {e : Expr} {pos : Pos} {R : Bool → Prop} (h : KT X w0 e ss fun b => R (!b)) : KT X w0 (.UnaryOp .Not e pos) ss R :=
  PT.imp (pt_not h) fun σ H Q ⟨w, ew, hs, q⟩ => ⟨w, ew, hs, fun b w1 l1 hk => q (!b) w1 l1 hk⟩
theorem kt_w {e : Expr} {R : Bool → Prop} (h : KW X w0 e ss R) : KT X w0 e ss R := h.pt
theorem kw_and {a b : Expr} {rest : List Expr} {pos : Pos} {R : Bool → Prop} (h : KT X w0 a ss fun c => iteP c (KW X w0 (.BoolOp .And (b :: rest) pos) ss R) (R false)) : KW X w0 (.BoolOp .And (a :: b :: rest) pos) ss R :=
  PW.imp (pw_and h pw_an) fun σ H Q ⟨w, ew, hs, q⟩ => ⟨w, ew, hs, fun c w1 l1 hk => by
    cases c
    · exact iteF (q false w1 l1 hk)
    · exact iteT ⟨_, hk, w1, rfl, hs.mono l1, fun d w2 l2 hd => q d w2 (l1.trans l2) hd⟩⟩
theorem kw_or {a b : Expr} {rest : List Expr} {pos : Pos} {R : Bool → Prop} (h : KT X w0 a ss fun c => iteP c (R true) (KW X w0 (.BoolOp .Or (b :: rest) pos) ss R)) : KW X w0 (.BoolOp .Or (a :: b :: rest) pos) ss R :=
  PW.imp (pw_or h pw_an) fun σ H Q ⟨w, ew, hs, q⟩ => ⟨w, ew, hs, fun c w1 l1 hk => by
    cases c
    · exact iteF ⟨_, hk, w1, rfl, hs.mono l1, fun d w2 l2 hd => q d w2 (l1.trans l2) hd⟩
    · exact iteT (q true w1 l1 hk)⟩
theorem kw_and1 {a : Expr} {pos : Pos} {R : Bool → Prop} (h : KT X w0 a ss R) : KW X w0 (.BoolOp .And [a] pos) ss R := pw_and1 h
theorem kw_or1 {a : Expr} {pos : Pos} {R : Bool → Prop} (h : KT X w0 a ss R) : KW X w0 (.BoolOp .Or [a] pos) ss R := pw_or1 h
theorem k_and {a b : Expr} {rest : List Expr} {pos : Pos} {R : AV → Prop} (h : KE X w0 a ss fun x => onBool x fun c => iteP c (KE X w0 (.BoolOp .And (b :: rest) pos) ss R) (R (.dat (.bool false)))) : KE X w0 (.BoolOp .And (a :: b :: rest) pos) ss R :=
  PE.imp (pe_and h pe_an) fun σ H Q ⟨w, ew, hs, q⟩ => ⟨w, ew, hs, fun v a w1 l1 hv hk => by
    obtain ⟨c, rfl, hc⟩ := onBool.of hk
    cases hv
    refine ⟨c, rfl, ?_⟩
    cases c
    · exact iteF (q (.bl false) (.dat (.bool false)) w1 l1 (.bl false) hc)
    · exact iteT ⟨_, hc, w1, rfl, hs.mono l1, fun v2 a2 w2 l2 h2 r2 => q v2 a2 w2 (l1.trans l2) h2 r2⟩⟩
theorem k_or {a b : Expr} {rest : List Expr} {pos : Pos} {R : AV → Prop} (h : KE X w0 a ss fun x => onBool x fun c => iteP c (R (.dat (.bool true))) (KE X w0 (.BoolOp .Or (b :: rest) pos) ss R)) : KE X w0 (.BoolOp .Or (a :: b :: rest) pos) ss R :=
  PE.imp (pe_or h pe_an) fun σ H Q ⟨w, ew, hs, q⟩ => ⟨w, ew, hs, fun v a w1 l1 hv hk => by
    obtain ⟨c, rfl, hc⟩ := onBool.of hk
    cases hv
    refine ⟨c, rfl, ?_⟩
    cases c
    · exact iteF ⟨_, hc, w1, rfl, hs.mono l1, fun v2 a2 w2 l2 h2 r2 => q v2 a2 w2 (l1.trans l2) h2 r2⟩
    · exact iteT (q (.bl true) (.dat (.bool true)) w1 l1 (.bl true) hc)⟩
theorem k_one {a : Expr} {op : BoolOp} {pos : Pos} {R : AV → Prop} (h : KE X w0 a ss R) : KE X w0 (.BoolOp op [a] pos) ss R := pe_one h
theorem k_not {a : Expr} {pos : Pos} {R : AV → Prop} (h : KE X w0 a ss fun x => onBool x fun c => R (.dat (.bool (!c)))) : KE X w0 (.UnaryOp .Not a pos) ss R :=
  PE.imp (pe_not h) fun σ H Q ⟨w, ew, hs, q⟩ => ⟨w, ew, hs, fun v a w1 l1 hv hk => by
    obtain ⟨c, rfl, hc⟩ := onBool.of hk
    cases hv
    exact ⟨c, rfl, q (.bl (!c)) (.dat (.bool (!c))) w1 l1 (.bl _) hc⟩⟩
theorem k_ifE {c a b : Expr} {pos : Pos} {R : AV → Prop} (h : KT X w0 c ss fun t => iteP t (KE X w0 a ss R) (KE X w0 b ss R)) : KE X w0 (.IfExp c a b pos) ss R :=
  PE.imp (pe_ifExp h pe_an pe_an) fun σ H Q ⟨w, ew, hs, q⟩ => ⟨w, ew, hs, fun t w1 l1 hk => by
    cases t
    · exact iteF ⟨_, hk, w1, rfl, hs.mono l1, fun v2 a2 w2 l2 h2 r2 => q v2 a2 w2 (l1.trans l2) h2 r2⟩
    · exact iteT ⟨_, hk, w1, rfl, hs.mono l1, fun v2 a2 w2 l2 h2 r2 => q v2 a2 w2 (l1.trans l2) h2 r2⟩⟩
theorem k_un {a : Expr} {op : UnaryOp} {pos : Pos} {r : V → Hp → VK → Prop} {R : AV → Prop} (ho : UnR X (unaryOp op) r) (h : KE X w0 a ss fun x => DU X.K r x R) : KE X w0 (.UnaryOp op a pos) ss R :=
  PE.imp (pe_un ho h) fun σ H Q ⟨w, ew, hs, q⟩ => ⟨w, ew, hs, fun v a w1 l1 hv hk => hk v w1 Q hv fun v2 a2 w2 l2 h2 r2 => q v2 a2 w2 (l1.trans l2) h2 r2⟩
/-- a built-in's call -/
theorem k_callB {id : String} {e : Expr} {es : List Expr} {x : Str} {p pos : Pos} {r : List V → Hp → VK → Prop} {R : AV → Prop} (hc : CallR X (.builtin id) r) (hg : Gl X x) (hm : X.mg x = none) (hv : bootBuiltins x = some (.builtin id)) (h : KA X w0 (e :: es) ss fun as => DC X.K r as R)
    (hn : x ≠ "__name__" := by decide) (hdb : (x == ("__debug__" : Str)) = false := by decide)
    (he : starEach (e :: es) X.env = (false, eval e X.env) :: starEach es X.env := by rfl) (hpl : (backTo pos (starEach es X.env)).any (·.1) = false := by rfl) : KE X w0 (.Call (.Name x p) (e :: es) [] pos) ss R :=
  PE.imp (pe_callB hc hg hm hv h hn hdb he hpl) fun σ H Q ⟨w, ew, hs, q⟩ => ⟨w, ew, hs, fun vs as w1 l1 hvs hk => hk vs w1 Q hvs fun v2 a2 w2 l2 h2 r2 => q v2 a2 w2 (l1.trans l2) h2 r2⟩
theorem k_callTy {T : String} {e : Expr} {es : List Expr} {x : Str} {p pos : Pos} {r : List V → Hp → VK → Prop} {R : AV → Prop} (hc : CallR X (.type T) r) (hg : Gl X x) (hm : X.mg x = none) (hv : bootBuiltins x = some (.type T)) (h : KA X w0 (e :: es) ss fun as => DC X.K r as R)
    (hn : x ≠ "__name__" := by decide) (hdb : (x == ("__debug__" : Str)) = false := by decide)
    (he : starEach (e :: es) X.env = (false, eval e X.env) :: starEach es X.env := by rfl) (hpl : (backTo pos (starEach es X.env)).any (·.1) = false := by rfl) : KE X w0 (.Call (.Name x p) (e :: es) [] pos) ss R :=
  PE.imp (pe_callTy hc hg hm hv h hn hdb he hpl) fun σ H Q ⟨w, ew, hs, q⟩ => ⟨w, ew, hs, fun vs as w1 l1 hvs hk => hk vs w1 Q hvs fun v2 a2 w2 l2 h2 r2 => q v2 a2 w2 (l1.trans l2) h2 r2⟩

/-! ### promises over data -/
/-- C: what the arguments must be, and what is then wanted of the answer -/
def spA (K : PySem.W.Frag) (C : List AV → (AV → Prop) → Prop) : Sp := fun vs H Q _ => ∃ (w : Wl) (as : List AV) (R : AV → Prop), w.h = H ∧ AvA K w vs as ∧ (as.all AV.plain = true ∧ C as R) ∧ ∀ v a w', Le w w' → Av K w' v a → R a → Q v w'.h
theorem k_call {C : List AV → (AV → Prop) → Prop} {k : Nat} {f : Addr} {fd : FuncData} {ps : List Str} {x : Str} {p pos : Pos} {e : Expr} {es : List Expr} {R : AV → Prop} (F : FnOk X.prog X.w X.K X.mg X.base CX0 k f fd ps (spA X.K C)) (hr : Room k X.A) (hg : Gl X x) (hm : X.mg x = some (.ref f)) (hk : PySem.W.keepIn X.K (.ref f) = true) (hb : Binds X.K fd ps [])
    (h : KA X w0 (e :: es) ss fun as => as.all AV.plain = true ∧ C as R) (hdb : (x == ("__debug__" : Str)) = false := by decide) (he : starEach (e :: es) X.env = (false, eval e X.env) :: starEach es X.env := by rfl) (hpl : (backTo pos (starEach es X.env)).any (·.1) = false := by rfl) :
    KE X w0 (.Call (.Name x p) (e :: es) [] pos) ss R :=
  PE.imp (pe_call F hr hg hm hk hb .nil pass0 h hdb he hpl) fun σ H Q ⟨w, ew, hs, q⟩ => ⟨w, ew, hs, fun vs as w1 l1 hvs hk => by
    show spA X.K C (vs ++ []) w1.h Q _
    rw [List.append_nil]
    exact ⟨w1, as, R, rfl, hvs, hk, fun v2 a2 w2 l2 h2 r2 => q v2 a2 w2 (l1.trans l2) h2 r2⟩⟩

/-! ### displays -/
theorem k_tup {es : List Expr} {x1 : Nat} {pos : Pos} {R : AV → Prop} (h : KA X w0 es ss fun as => onDats as fun ds => ds.length ≤ 100000 ∧ R (.dat (.tuple ds))) : KE X w0 (.Tuple es x1 pos) ss R :=
  PE.imp (pe_tup h) fun σ H Q ⟨w, ew, hs, q⟩ => ⟨w, ew, hs, fun vs as w1 l1 hvs hk => by
    obtain ⟨ds, rfl, hz, hr⟩ := onDats.of hk
    have hd := AvA.dats hvs
    refine ⟨by rw [hd.length]; exact Nat.le_trans hz (by decide), fun p hp => ?_⟩
    exact q (.ref p) (.dat (.tuple ds)) (w1.put p (.tup vs)) (l1.trans (Le.put hp)) (.tup (.inl (.inl upd_same)) (hd.mono (Le.put hp).g)) hr⟩
theorem kn_lst {es : List Expr} {pos : Pos} {R : List PyData → Prop} (h : KA X w0 es ss fun as => onDats as fun ds => ds.length ≤ 100000 ∧ R ds) : KN X w0 (.List es pos) ss R :=
  PE.imp (pe_lst h) fun σ H Q ⟨w, ew, hs, q⟩ => ⟨w, ew, hs, fun vs as w1 l1 hvs hk => by
    obtain ⟨ds, rfl, hz, hr⟩ := onDats.of hk
    have hd := AvA.dats hvs
    refine ⟨by rw [hd.length]; exact Nat.le_trans hz (by decide), fun p hp => ?_⟩
    have hpw : w.h p = none := by
      cases e : w.h p with
      | none => rfl
      | some o =>
        have := l1.h p o e
        rw [hp] at this
        cases this
    exact q p vs ds (w1.own p (.lst vs) (w1.gfree hp)) (l1.trans (Le.own hp)) hpw upd_same (w1.gfree hp) hd hr⟩
/-- what leaned on nothing is leant on -/
theorem k_ofN {e : Expr} {R : AV → Prop} (h : KN X w0 e ss fun ds => R (.dat (.list ds))) : KE X w0 e ss R :=
  PE.imp h fun σ H Q ⟨w, ew, hs, q⟩ => ⟨w, ew, hs, fun p vs ds w1 l1 hn h1 h2 hd hr => by
    have hg : w.g p = none := w.gfree hn
    have sub : Ex (upd w1.g p (.lst vs)) w1.h := fun a u e => by
      by_cases z : a = p
      · subst z
        rw [upd_same] at e
        cases e
        exact h1
      · rw [upd_ne z] at e
        exact w1.sub a u e
    have eg : Ex w1.g (upd w1.g p (.lst vs)) := Ex.new h2
    refine q (.ref p) (.dat (.list ds)) ⟨upd w1.g p (.lst vs), w1.h, sub, w1.st⟩ ⟨l1.g.trans eg, l1.h, fun b b1 b2 => ?_⟩ (.lst upd_same (hd.mono eg)) hr
    have z : b ≠ p := fun z => b1 (by rw [z]; exact hn)
    show upd w1.g p (.lst vs) b = none
    rw [upd_ne z]
    exact l1.hid b b1 b2⟩
theorem k_lst {es : List Expr} {pos : Pos} {R : AV → Prop} (h : KA X w0 es ss fun as => onDats as fun ds => ds.length ≤ 100000 ∧ R (.dat (.list ds))) : KE X w0 (.List es pos) ss R := k_ofN (kn_lst h)
theorem k_dic0 {pos : Pos} {R : AV → Prop} (hR : R (.dat (.dict []))) : KE X w0 (.Dict [] [] pos) ss R :=
  PE.imp pe_dnewK fun σ H Q ⟨w, ew, hs, q⟩ => by
    subst ew
    exact fun p hp => q (.ref p) (.dat (.dict [])) (w.put p (.dK [])) (Le.put hp) (.dic upd_same) hR

/-! ### statements -/
theorem ks_cons {st : Stmt} {rest : List Stmt} {N : AN} (h : KS X w0 st ss { N with nx := fun ss' => KSs X w0 rest ss' N }) : KSs X w0 (st :: rest) ss N :=
  PSs.imp (pss_cons h (pss_an (w0 := w0))) fun D σ H ⟨w, ew, hs, d⟩ => ⟨w, ew, hs, ⟨fun σ' ss' w' e hs' hk => ⟨ss', N, hk, w', rfl, hs', d.mono e⟩, d.rt, d.bk, d.ct⟩⟩
theorem ks_one {st : Stmt} {N : AN} (h : KS X w0 st ss N) : KSs X w0 [st] ss N := pss_one h
theorem ks_nil {N : AN} (h : N.nx ss) : KSs X w0 [] ss N := PSs.imp pss_nil fun D σ H ⟨w, ew, hs, d⟩ => by
  subst ew
  exact d.nx σ ss w (Ex.refl _) hs h
theorem ks_if {c : Expr} {a b : List Stmt} {pos : Pos} {N : AN} (h : KT X w0 c ss fun t => iteP t (KSs X w0 a ss N) (KSs X w0 b ss N)) : KS X w0 (.If c a b pos) ss N :=
  PS.imp (ps_if h (pss_an (w0 := w0)) (pss_an (w0 := w0))) fun D σ H ⟨w, ew, hs, d⟩ => ⟨w, ew, hs, fun t w1 l1 hk => by
    cases t
    · exact iteF ⟨ss, N, hk, w1, rfl, hs.mono l1, d.mono l1.g⟩
    · exact iteT ⟨ss, N, hk, w1, rfl, hs.mono l1, d.mono l1.g⟩⟩
abbrev onPlain (a : AV) (P : AV → Prop) : Prop := match a with | .buf _ => False | a => P a
theorem onPlain.of {a : AV} {P : AV → Prop} (h : onPlain a P) : a.plain = true ∧ P a := by
  cases a with
  | buf ds => exact h.elim
  | dat d => exact ⟨rfl, h⟩
  | pool => exact ⟨rfl, h⟩
  | scr ns => exact ⟨rfl, h⟩
  | nmd m => exact ⟨rfl, h⟩
  | err C ds => exact ⟨rfl, h⟩
  | at_ p => exact ⟨rfl, h⟩
  | reg m => exact ⟨rfl, h⟩
  | ins C fs => exact ⟨rfl, h⟩
theorem ks_set (i : Nat) {x : Str} {e : Expr} {p pos : Pos} {N : AN} (hN : X.N.Nodup) (hi : X.N[i]? = some x) (hx : Loc X.env.scope x) (h : KE X w0 e ss fun a => onPlain a fun a => N.nx (ss.set i (some a)))
    (hs : swapsWith e (some (.Name x p)) pos.line X.env = pure false := by rfl) (hf : X.fn x = true ∨ X.env.scope.names.lookup x = some .local := by first | exact .inl rfl | exact .inr rfl | assumption) : KS X w0 (.Assign [.Name x p] e pos) ss N :=
  PS.imp (ps_set hN hi hx h hs hf) fun D σ H ⟨w, ew, hs, d⟩ => ⟨w, ew, hs, fun v a w1 l1 hv hk => by
    obtain ⟨hp, hk⟩ := hk.of
    exact d.nx _ _ w1 l1.g ((hs.mono l1).set i hp hv) hk⟩
theorem ks_setN (i : Nat) {x : Str} {e : Expr} {p pos : Pos} {N : AN} (hN : X.N.Nodup) (hi : X.N[i]? = some x) (hx : Loc X.env.scope x) (h : KN X w0 e ss fun ds => N.nx (ss.set i (some (.buf ds))))
    (hs : swapsWith e (some (.Name x p)) pos.line X.env = pure false := by rfl) (hf : X.fn x = true ∨ X.env.scope.names.lookup x = some .local := by first | exact .inl rfl | exact .inr rfl | assumption) : KS X w0 (.Assign [.Name x p] e pos) ss N :=
  PS.imp (ps_set hN hi hx h hs hf) fun D σ H ⟨w, ew, hs, d⟩ => ⟨w, ew, hs, fun p vs ds w1 l1 hn h1 h2 hd hk => d.nx _ _ w1 l1.g (hs.setN i hn l1 h1 h2 hd) hk⟩
theorem ks_ret {e : Expr} {pos : Pos} {N : AN} (h : KE X w0 e ss fun a => N.rt a) : KS X w0 (.Return (some e) pos) ss N :=
  PS.imp (ps_ret h) fun D σ H ⟨w, ew, hs, d⟩ => ⟨w, ew, hs, fun v a w1 l1 hv hk => d.rt v a w1 l1.g (hs.le.trans l1) hv hk⟩
theorem ks_pass {pos : Pos} {N : AN} (h : N.nx ss) : KS X w0 (.Pass pos) ss N := PS.imp ps_pass fun D σ H ⟨w, ew, hs, d⟩ => by
  subst ew
  exact d.nx σ ss w (Ex.refl _) hs h
/-- a hidden list is leant on from here -/
theorem ks_freeze (i : Nat) {ds : List PyData} {sts : List Stmt} {N : AN} (hi : ss[i]? = some (some (.buf ds))) (h : KSs X w0 sts (ss.set i (some (.dat (.list ds)))) N) : KSs X w0 sts ss N :=
  PSs.imp h fun D σ H ⟨w, ew, hs, d⟩ => by
    obtain ⟨v, hv, a, vs, rfl, h1, h2, h3⟩ := hs.at_ i _ hi
    have sub : Ex (upd w.g a (.lst vs)) w.h := fun b u e => by
      by_cases z : b = a
      · subst z
        rw [upd_same] at e
        cases e
        exact h1
      · rw [upd_ne z] at e
        exact w.sub b u e
    have eg : Ex w.g (upd w.g a (.lst vs)) := Ex.new h2
    have h0 : w0.h a = none := hs.fr i ds a hi hv
    have hiL : i < ss.length := (List.getElem?_eq_some_iff.mp hi).1
    refine ⟨⟨upd w.g a (.lst vs), w.h, sub, w.st⟩, ew, ⟨⟨hs.le.g.trans eg, hs.le.h, fun b b1 b2 => ?_⟩, by rw [List.length_set]; exact hs.len, fun j b e => ?_, fun j k es fs u hjk e1 e2 e3 => ?_, fun j es p e1 e2 => ?_, hs.so.away (hs.sd i ds a hi hv) eg (fun b _ => rfl) (fun b hb => upd_ne hb), fun j es p e1 e2 => ?_⟩, d.mono eg⟩
    · have z : b ≠ a := fun z => b1 (by rw [z]; exact h0)
      show upd w.g a (.lst vs) b = none
      rw [upd_ne z]
      exact hs.le.hid b b1 b2
    · by_cases hj : i = j
      · subst hj
        rw [List.getElem?_set_self hiL] at e
        cases e
        exact ⟨_, hv, .lst upd_same (h3.mono eg)⟩
      · rw [List.getElem?_set_ne hj] at e
        obtain ⟨u, g1, g2⟩ := hs.at_ j b e
        refine ⟨u, g1, ?_⟩
        cases b with
        | dat d => exact Dd.mono eg g2
        | pool =>
          obtain ⟨p, rfl, hp⟩ := g2
          exact ⟨p, rfl, eg _ _ hp⟩
        | scr ns =>
          obtain ⟨p, rfl, hp⟩ := g2
          exact ⟨p, rfl, ex_l eg hp⟩
        | err C es =>
          obtain ⟨p, d2, fs2, rfl, q1, q2, q3⟩ := g2
          exact ⟨p, d2, fs2, rfl, eg _ _ q1, q2.mono eg, q3.mono eg⟩
        | ins C es =>
          obtain ⟨p, d2, fs2, rfl, q1, q2⟩ := g2
          exact ⟨p, d2, fs2, rfl, eg _ _ q1, q2.mono eg⟩
        | nmd m =>
          obtain ⟨p, us, rfl, q1, q2⟩ := g2
          exact ⟨p, us, rfl, eg _ _ q1, q2.mono eg⟩
        | at_ p => exact g2
        | reg m =>
          obtain ⟨p, rfl, hp⟩ := g2
          exact ⟨p, rfl, eg _ _ hp⟩
        | buf es =>
          obtain ⟨p, us, rfl, q1, q2, q3⟩ := g2
          refine ⟨p, us, rfl, q1, ?_, q3.mono eg⟩
          have z : p ≠ a := fun z => by
            subst z
            exact hs.ap i j ds es _ hj hi e hv g1
          show upd w.g a (.lst vs) p = none
          rw [upd_ne z]
          exact q2
    · have n1 : i ≠ j := fun z => by
        subst z
        rw [List.getElem?_set_self hiL] at e1
        cases e1
      have n2 : i ≠ k := fun z => by
        subst z
        rw [List.getElem?_set_self hiL] at e2
        cases e2
      rw [List.getElem?_set_ne n1] at e1
      rw [List.getElem?_set_ne n2] at e2
      exact hs.ap j k es fs u hjk e1 e2 e3
    · have n1 : i ≠ j := fun z => by
        subst z
        rw [List.getElem?_set_self hiL] at e1
        cases e1
      rw [List.getElem?_set_ne n1] at e1
      exact hs.fr j es p e1 e2
    · have n1 : i ≠ j := fun z => by
        subst z
        rw [List.getElem?_set_self hiL] at e1
        cases e1
      rw [List.getElem?_set_ne n1] at e1
      exact hs.sd j es p e1 e2
end
end Kp


namespace Kp
open PySem PySem.Spec PyProof.Rows L2
section
variable {X : Cx} {w0 : Wl} {ss : SS} {a b : Expr} {pos : Pos} {R : AV → Prop}
theorem OpR.or {f : Value → Value → Sem Value} {r r' : R2} (h : OpR X f r) (h' : OpR X f r') : OpR X f (fun x y H Q => r x y H Q ∨ r' x y H Q) := fun pins s σ H x y v u Q I rx ry q =>
  q.elim (h pins s σ H x y v u Q I rx ry) (h' pins s σ H x y v u Q I rx ry)
theorem go {K : PySem.W.Frag} {w : Wl} {Q : VK} {v : V} {d : PyData} {R : AV → Prop} (q : ∀ v a w', Le w w' → Av K w' v a → R a → Q v w'.h) (h : Dd K w.g v d) (r : R (.dat d)) : Q v w.h := q v (.dat d) w (Le.refl w) h r
theorem sz {n : Nat} (h : n ≤ 100000) : n ≤ sizeLine := Nat.le_trans h (by decide)
/-! ### + - * % // ** -/
abbrev addS (x y : AV) (R : AV → Prop) : Prop := match x, y with
  | .dat (.int i), .dat (.int j) => R (.dat (.int (i + j)))
  | .dat (.list d), .dat (.list e) => d.length + e.length ≤ 100000 ∧ R (.dat (.list (d ++ e)))
  | .dat (.tuple d), .dat (.tuple e) => d.length + e.length ≤ 100000 ∧ R (.dat (.tuple (d ++ e)))
  | .dat (.str d), .dat (.str e) => d.length + e.length ≤ 100000 ∧ R (.dat (.str (d ++ e)))
  | _, _ => False
theorem Le.lst {K : PySem.W.Frag} {w : Wl} {Q : VK} {vs : List V} {ds : List PyData} {R : AV → Prop} (hd : DdA K w.g vs ds) (hr : R (.dat (.list ds))) (q : ∀ v a w', Le w w' → Av K w' v a → R a → Q v w'.h) :
    ∀ p, w.h p = none → Q (.ref p) (upd w.h p (.lst vs)) := fun p hp => q (.ref p) (.dat (.list ds)) (w.put p (.lst vs)) (Le.put hp) (.lst upd_same (hd.mono (Le.put hp).g)) hr
theorem Le.tup {K : PySem.W.Frag} {w : Wl} {Q : VK} {vs : List V} {ds : List PyData} {R : AV → Prop} (hd : DdA K w.g vs ds) (hr : R (.dat (.tuple ds))) (q : ∀ v a w', Le w w' → Av K w' v a → R a → Q v w'.h) :
    ∀ p, w.h p = none → Q (.ref p) (upd w.h p (.tup vs)) := fun p hp => q (.ref p) (.dat (.tuple ds)) (w.put p (.tup vs)) (Le.put hp) (.tup (.inl (.inl upd_same)) (hd.mono (Le.put hp).g)) hr
theorem Wl.t {K : PySem.W.Frag} (w : Wl) {p : Addr} {vs : List V} (h : SqT K w.g p vs) : SqT K w.h p vs := ex_t w.sub h
theorem k_add (h : KE X w0 a ss fun x => KE X w0 b ss fun y => addS x y R) : KE X w0 (.BinOp a .Add b pos) ss R :=
  k_op (OpR.or op_add (OpR.or op_cat (OpR.or op_catA op_add_str))) (KE.weak h fun x hx => KE.weak hx fun y hy vx vy w Q ax ay q => by
    unfold addS at hy
    split at hy
    · cases ax
      cases ay
      exact .inl ⟨_, _, rfl, rfl, go q (.int _) hy⟩
    · obtain ⟨hz, hr⟩ := hy
      cases ax with
      | lst h1 d1 =>
        cases ay with
        | lst h2 d2 => exact .inr (.inl ⟨_, _, _, _, rfl, rfl, w.sub _ _ h1, w.sub _ _ h2, sz (by rw [d1.length, d2.length]; exact hz), Le.lst (d1.append d2) hr q⟩)
    · obtain ⟨hz, hr⟩ := hy
      cases ax with
      | tup h1 d1 =>
        cases ay with
        | tup h2 d2 =>
          refine .inr (.inr (.inl ⟨_, _, _, _, rfl, rfl, w.t h1, w.t h2, sz (by rw [d1.length, d2.length]; exact hz), fun e => ?_, fun _ e => ?_, fun _ _ => Le.tup (d1.append d2) hr q⟩))
          · subst e
            cases d1
            exact go q (.tup h2 d2) hr
          · subst e
            cases d2
            rw [List.append_nil] at hr
            exact go q (.tup h1 d1) hr
    · obtain ⟨hz, hr⟩ := hy
      cases ax
      cases ay
      exact .inr (.inr (.inr ⟨_, _, rfl, rfl, sz hz, go q (.str _) hr⟩))
    · exact hy.elim)
/-- two ints -/
abbrev intS (x y : AV) (P : Int → Int → Prop) : Prop := match x, y with
  | .dat (.int i), .dat (.int j) => P i j
  | _, _ => False
theorem intS.of {x y : AV} {P : Int → Int → Prop} (h : intS x y P) : ∃ i j, x = .dat (.int i) ∧ y = .dat (.int j) ∧ P i j := by
  unfold intS at h
  split at h
  · exact ⟨_, _, rfl, rfl, h⟩
  · exact h.elim
theorem k_opI {op : Operator} {C : Int → Int → Prop} {g : Int → Int → Int} (ho : OpR X (binaryOp op) (rI C fun i j => .int (g i j))) (h : KE X w0 a ss fun x => KE X w0 b ss fun y => intS x y fun i j => C i j ∧ R (.dat (.int (g i j)))) : KE X w0 (.BinOp a op b pos) ss R :=
  k_op ho (KE.weak h fun x hx => KE.weak hx fun y hy vx vy w Q ax ay q => by
    obtain ⟨i, j, rfl, rfl, hc, hr⟩ := hy.of
    cases ax
    cases ay
    exact ⟨i, j, rfl, rfl, hc, go q (.int _) hr⟩)
theorem k_opI0 {op : Operator} {g : Int → Int → Int} (ho : OpR X (binaryOp op) (rI0 fun i j => .int (g i j))) (h : KE X w0 a ss fun x => KE X w0 b ss fun y => intS x y fun i j => R (.dat (.int (g i j)))) : KE X w0 (.BinOp a op b pos) ss R :=
  k_op ho (KE.weak h fun x hx => KE.weak hx fun y hy vx vy w Q ax ay q => by
    obtain ⟨i, j, rfl, rfl, hr⟩ := hy.of
    cases ax
    cases ay
    exact ⟨i, j, rfl, rfl, go q (.int _) hr⟩)
theorem k_sub (h : KE X w0 a ss fun x => KE X w0 b ss fun y => intS x y fun i j => R (.dat (.int (i - j)))) : KE X w0 (.BinOp a .Sub b pos) ss R := k_opI0 op_sub h
theorem k_mod (h : KE X w0 a ss fun x => KE X w0 b ss fun y => intS x y fun i j => 0 < j ∧ R (.dat (.int (i % j)))) : KE X w0 (.BinOp a .Mod b pos) ss R := k_opI op_mod h
theorem k_fdiv (h : KE X w0 a ss fun x => KE X w0 b ss fun y => intS x y fun i j => CDiv i j ∧ R (.dat (.int (i / j)))) : KE X w0 (.BinOp a .FloorDiv b pos) ss R := k_opI op_fdiv h
theorem k_pow (h : KE X w0 a ss fun x => KE X w0 b ss fun y => intS x y fun i j => CPow i j ∧ R (.dat (.int (i ^ j.toNat)))) : KE X w0 (.BinOp a .Pow b pos) ss R := k_opI op_pow h
abbrev mulS (x y : AV) (R : AV → Prop) : Prop := match x, y with
  | .dat (.int i), .dat (.int j) => CMul i j ∧ R (.dat (.int (i * j)))
  | .dat (.list d), .dat (.int k) => -(2 ^ 63) ≤ k ∧ k < 2 ^ 63 ∧ d.length * k.toNat ≤ 100000 ∧ R (.dat (.list (List.replicate k.toNat d).flatten))
  | _, _ => False
theorem DdA.rep {K : PySem.W.Frag} {H : Hp} {vs : List V} {ds : List PyData} (h : DdA K H vs ds) : ∀ n : Nat, DdA K H (List.replicate n vs).flatten (List.replicate n ds).flatten
  | 0 => .nil
  | n + 1 => by
    simp only [List.replicate_succ, List.flatten_cons]
    exact h.append (DdA.rep h n)
theorem k_mul (h : KE X w0 a ss fun x => KE X w0 b ss fun y => mulS x y R) : KE X w0 (.BinOp a .Mult b pos) ss R :=
  k_op (OpR.or op_mul op_rep) (KE.weak h fun x hx => KE.weak hx fun y hy vx vy w Q ax ay q => by
    unfold mulS at hy
    split at hy
    · obtain ⟨hc, hr⟩ := hy
      cases ax
      cases ay
      exact .inl ⟨_, _, rfl, rfl, hc, go q (.int _) hr⟩
    · obtain ⟨h1, h2, hz, hr⟩ := hy
      cases ay
      cases ax with
      | lst h3 d1 => exact .inr ⟨_, _, _, rfl, rfl, w.sub _ _ h3, h1, h2, sz (by rw [d1.length]; exact hz), Le.lst (d1.rep _) hr q⟩
    · exact hy.elim)
/-! ### comparisons -/
/-- a comparison's rule by data: what it tells -/
def DCmp (X : Cx) (op : CmpOp) (S : AV → AV → (Bool → Prop) → Prop) : Prop := ∃ r, OpR X (compareOp op) r ∧ ∀ x y (R : AV → Prop), S x y (fun c => R (.dat (.bool c))) → DR X.K r x y R
theorem k_cm {op : CmpOp} {S : AV → AV → (Bool → Prop) → Prop} (hc : DCmp X op S) (h : KE X w0 a ss fun x => KE X w0 b ss fun y => S x y fun c => R (.dat (.bool c))) (hm : behindInMarks op b = false := by first | exact nobehind _ (by decide) (by decide) | rfl) : KE X w0 (.Compare a [op] [b] pos) ss R := by
  obtain ⟨r, ho, hk⟩ := hc
  exact k_cmp ho hm (KE.weak h fun x hx => KE.weak hx fun y hy => hk x y R hy)
theorem kt_cm {op : CmpOp} {S : AV → AV → (Bool → Prop) → Prop} {R : Bool → Prop} (hc : DCmp X op S) (h : KE X w0 a ss fun x => KE X w0 b ss fun y => S x y R) (hm : behindInMarks op b = false := by first | exact nobehind _ (by decide) (by decide) | rfl) : KT X w0 (.Compare a [op] [b] pos) ss R := by
  obtain ⟨r, ho, hk⟩ := hc
  exact kt_cmp ho hm (KE.weak h fun x hx => KE.weak hx fun y hy => hk x y (fun z => onBool z R) hy)
abbrev cmpS (f : Int → Int → Bool) (x y : AV) (R : Bool → Prop) : Prop := match x, y with
  | .dat (.int i), .dat (.int j) => R (f i j)
  | _, _ => False
theorem dc_int {op : CmpOp} {f : Int → Int → Bool} (ho : OpR X (compareOp op) (rI0 fun i j => .bl (f i j))) : DCmp X op (cmpS f) := ⟨_, ho, fun x y R hy vx vy w Q ax ay q => by
  unfold cmpS at hy
  split at hy
  · cases ax
    cases ay
    exact ⟨_, _, rfl, rfl, go q (.bl _) hy⟩
  · exact hy.elim⟩
theorem dc_lt : DCmp X .Lt (cmpS fun i j => decide (i < j)) := dc_int op_lt
theorem dc_gt : DCmp X .Gt (cmpS fun i j => decide (j < i)) := dc_int op_gt
theorem dc_ge : DCmp X .GtE (cmpS fun i j => decide (j ≤ i)) := dc_int op_ge
abbrev leS (x y : AV) (R : Bool → Prop) : Prop := match x, y with
  | .dat (.int i), .dat (.int j) => R (decide (i ≤ j))
  | .dat (.str i), .dat (.str j) => R (!decide (j.cps.toList < i.cps.toList))
  | _, _ => False
theorem dc_le : DCmp X .LtE leS := ⟨_, OpR.or op_le op_le_str, fun x y R hy vx vy w Q ax ay q => by
  unfold leS at hy
  split at hy
  · cases ax
    cases ay
    exact .inl ⟨_, _, rfl, rfl, go q (.bl _) hy⟩
  · cases ax
    cases ay
    exact .inr ⟨_, _, rfl, rfl, go q (.bl _) hy⟩
  · exact hy.elim⟩

mutual
def noD : PyData → Bool
  | .list ds => noDA ds
  | .tuple ds => noDA ds
  | .dict _ => false
  | _ => true
def noDA : List PyData → Bool
  | [] => true
  | d :: ds => noD d && noDA ds
end
mutual
theorem Dd.dp {K : PySem.W.Frag} {H : Hp} : ∀ {d : PyData} {v : V}, Dd K H v d → noD d = true → Dp K H v d
  | .none, _, .non, _ => .non
  | .bool _, _, .bl b, _ => .bl b
  | .int _, _, .int i, _ => .int i
  | .str _, _, .str x, _ => .str x
  | .list _, _, .lst h a, n => .lst (.inl (.inl h)) (DdA.dp a n)
  | .tuple _, _, .tup h a, n => .tup h (DdA.dp a n)
theorem DdA.dp {K : PySem.W.Frag} {H : Hp} : ∀ {ds : List PyData} {vs : List V}, DdA K H vs ds → noDA ds = true → DpAll K H vs ds
  | [], _, .nil, _ => .nil
  | _ :: _, _, .cons a t, n => by
    unfold noDA at n
    rw [Bool.and_eq_true] at n
    exact .cons (Dd.dp a n.1) (DdA.dp t n.2)
end
abbrev eqS (x y : AV) (R : Bool → Prop) : Prop := match x, y with
  | .dat d, .dat e => noD d = true ∧ noD e = true ∧ SeqAt.shaped d = true ∧ SeqAt.shaped e = true ∧ R (PyData.eqv d e)
  | _, _ => False
theorem dc_eq (hu : X.A.units + 64 < cLine) : DCmp X .Eq eqS := ⟨_, op_eqD hu, fun x y R hy vx vy w Q ax ay q => by
  unfold eqS at hy
  split at hy
  · obtain ⟨n1, n2, s1, s2, hr⟩ := hy
    exact ⟨_, _, Dd.dp (Dd.mono w.sub ax) n1, Dd.dp (Dd.mono w.sub ay) n2, s1, s2, go q (.bl _) hr⟩
  · exact hy.elim⟩
abbrev neS (x y : AV) (R : Bool → Prop) : Prop := match x, y with
  | .dat d, .dat e => noD d = true ∧ noD e = true ∧ SeqAt.shaped d = true ∧ SeqAt.shaped e = true ∧ R (!PyData.eqv d e)
  | _, _ => False
theorem dc_ne (hu : X.A.units + 64 < cLine) : DCmp X .NotEq neS := ⟨_, op_neD hu, fun x y R hy vx vy w Q ax ay q => by
  unfold neS at hy
  split at hy
  · obtain ⟨n1, n2, s1, s2, hr⟩ := hy
    exact ⟨_, _, Dd.dp (Dd.mono w.sub ax) n1, Dd.dp (Dd.mono w.sub ay) n2, s1, s2, go q (.bl _) hr⟩
  · exact hy.elim⟩
def isNone : PyData → Bool
  | .none => true
  | _ => false
theorem Dd.isNon {K : PySem.W.Frag} {H : Hp} {v : V} {d : PyData} (h : Dd K H v d) : decide (v = .non) = isNone d := by
  cases h <;> first | rfl | exact decide_eq_false (fun z => nomatch z)
abbrev isS (x y : AV) (R : Bool → Prop) : Prop := match x, y with
  | .dat d, .dat .none => R (isNone d)
  | _, _ => False
abbrev isntS (x y : AV) (R : Bool → Prop) : Prop := match x, y with
  | .dat d, .dat .none => R (!isNone d)
  | _, _ => False
theorem dc_is : DCmp X .Is isS := ⟨_, op_isN, fun x y R hy vx vy w Q ax ay q => by
  unfold isS at hy
  split at hy
  · cases ay
    refine ⟨rfl, ?_⟩
    rw [Dd.isNon ax]
    exact go q (.bl _) hy
  · exact hy.elim⟩
theorem dc_isnt : DCmp X .IsNot isntS := ⟨_, op_notN, fun x y R hy vx vy w Q ax ay q => by
  unfold isntS at hy
  split at hy
  · cases ay
    refine ⟨rfl, ?_⟩
    rw [Dd.isNon ax]
    exact go q (.bl _) hy
  · exact hy.elim⟩
/-! ### in -/
/-- flat data -/
def flatD : PyData → Option V
  | .none => some .non
  | .bool b => some (.bl b)
  | .int i => some (.int i)
  | .str x => some (.str x)
  | _ => none
theorem flatD.flat {d : PyData} {v : V} (h : flatD d = some v) : flatV v = true := by
  cases d <;> cases h <;> rfl
theorem flatD.dd {K : PySem.W.Frag} {H : Hp} {d : PyData} {v u : V} (h : flatD d = some v) (q : Dd K H u d) : u = v := by
  cases q <;> cases h <;> rfl
def flatDs : List PyData → Option (List V)
  | [] => some []
  | d :: ds => match flatD d, flatDs ds with
    | some v, some vs => some (v :: vs)
    | _, _ => none
theorem flatDs.dd {K : PySem.W.Frag} {H : Hp} : ∀ {ds : List PyData} {vs us : List V}, flatDs ds = some vs → DdA K H us ds → us = vs ∧ vs.all flatV = true
  | [], _, _, h, .nil => by cases h; exact ⟨rfl, rfl⟩
  | d :: ds, vs, _, h, .cons a t => by
    unfold flatDs at h
    split at h
    · rename_i v ws e1 e2
      cases h
      obtain ⟨e3, e4⟩ := flatDs.dd e2 t
      rw [flatD.dd e1 a, e3]
      exact ⟨rfl, by rw [List.all_cons, flatD.flat e1, e4]; rfl⟩
    · cases h
end
end Kp


namespace Kp
open PySem PySem.Spec PyProof.Rows L2
section
variable {X : Cx} {w0 : Wl} {ss : SS} {a b : Expr} {pos : Pos} {R : AV → Prop}
/-! ### in -/
abbrev inS (x y : AV) (R : Bool → Prop) : Prop := match x, y with
  | .dat (.str x), .dat (.str z) => ∃ c : Nat, x = ⟨#[c]⟩ ∧ R (decide (c ∈ z.cps.toList))
  | .dat d, .dat (.list ds) => ∃ v vs, flatD d = some v ∧ flatDs ds = some vs ∧ R (inV v vs)
  | .dat d, .dat (.tuple ds) => ∃ v vs, flatD d = some v ∧ flatDs ds = some vs ∧ R (inV v vs)
  | _, _ => False
theorem dc_in : DCmp X .In inS := ⟨_, OpR.or op_in_seq op_in_sign, fun x y R hy vx vy w Q ax ay q => by
  unfold inS at hy
  split at hy
  · obtain ⟨c, rfl, hr⟩ := hy
    cases ax
    cases ay
    exact .inr ⟨_, _, rfl, rfl, go q (.bl _) hr⟩
  · obtain ⟨v, vs, e1, e2, hr⟩ := hy
    cases ay with
    | lst h1 d1 =>
      obtain ⟨rfl, hf⟩ := flatDs.dd e2 d1
      obtain rfl := flatD.dd e1 ax
      exact .inl ⟨_, _, rfl, .inl (.inl (.inl (w.sub _ _ h1))), flatD.flat e1, hf, go q (.bl _) hr⟩
  · obtain ⟨v, vs, e1, e2, hr⟩ := hy
    cases ay with
    | tup h1 d1 =>
      obtain ⟨rfl, hf⟩ := flatDs.dd e2 d1
      obtain rfl := flatD.dd e1 ax
      exact .inl ⟨_, _, rfl, .inr (w.t h1), flatD.flat e1, hf, go q (.bl _) hr⟩
  · exact hy.elim⟩
/-! ### subscripts, slices -/
abbrev ixS (x y : AV) (R : AV → Prop) : Prop := match x, y with
  | .dat (.list ds), .dat (.int i) => ∃ d, atI ds i = some d ∧ R (.dat d)
  | .dat (.tuple ds), .dat (.int i) => ∃ d, atI ds i = some d ∧ R (.dat d)
  | .dat (.str z), .dat (.int i) => ∃ c, z.length ≤ 100000 ∧ atI z.cps.toList i = some c ∧ R (.dat (.str ⟨#[c]⟩))
  | _, _ => False
theorem DdA.at {K : PySem.W.Frag} {H : Hp} {vs : List V} {ds : List PyData} {i : Int} {d : PyData} (h : DdA K H vs ds) (e : atI ds i = some d) : ∃ v, atI vs i = some v ∧ Dd K H v d := by
  unfold atI at e ⊢
  rw [h.length]
  cases q : ixN ds.length i with
  | none => (rw [q] at e; cases e)
  | some j =>
    rw [q] at e
    exact h.get (show ds[j]? = some d from e)
theorem k_idx (hp : PlainIx b) (h : KE X w0 a ss fun x => KE X w0 b ss fun y => ixS x y R) : KE X w0 (.Subscript a b pos) ss R :=
  k_ix ix_seq hp (KE.weak h fun x hx => KE.weak hx fun y hy vx vy w Q ax ay q => by
    unfold ixS at hy
    split at hy
    · obtain ⟨d, e, hr⟩ := hy
      cases ay
      cases ax with
      | lst h1 d1 =>
        obtain ⟨v, e1, e2⟩ := d1.at e
        exact .inl ⟨_, _, _, v, rfl, rfl, .inl (.inl (w.sub _ _ h1)), e1, go q e2 hr⟩
    · obtain ⟨d, e, hr⟩ := hy
      cases ay
      cases ax with
      | tup h1 d1 =>
        obtain ⟨v, e1, e2⟩ := d1.at e
        exact .inr (.inl ⟨_, _, _, v, rfl, rfl, w.t h1, e1, go q e2 hr⟩)
    · obtain ⟨c, hz, e, hr⟩ := hy
      cases ay
      cases ax
      exact .inr (.inr ⟨_, _, c, rfl, rfl, sz hz, e, go q (.str _) hr⟩)
    · exact hy.elim)
/-- a slice's part -/
def KO (X : Cx) (w0 : Wl) (e : Option Expr) (ss : SS) (R : Option Int → Prop) : Prop := ∃ t : TO, PO X e t ∧ ∀ σ H (Q : Option Int → Hp → Prop), (∃ w : Wl, w.h = H ∧ Sl X.K w0 w σ ss ∧ ∀ o w', Le w w' → R o → Q o w'.h) → t σ H Q
theorem ko_none {R : Option Int → Prop} (h : R none) : KO X w0 none ss R := ⟨_, po_none, fun σ H Q ⟨w, e, hs, q⟩ => by
  subst e
  exact q none w (Le.refl w) h⟩
theorem ko_some {e : Expr} {R : Option Int → Prop} (h : KE X w0 e ss fun a => onInt a fun i => R (some i)) : KO X w0 (some e) ss R := ⟨_, po_some h, fun σ H Q ⟨w, e, hs, q⟩ => ⟨w, e, hs, fun v a w1 l1 hv hk => by
  obtain ⟨i, rfl, hi⟩ := hk.of
  cases hv
  exact ⟨i, rfl, q (some i) w1 l1 hi⟩⟩⟩
def anO (X : Cx) (w0 : Wl) (e : Option Expr) (ss : SS) : TO := fun σ H Q => ∃ R, KO X w0 e ss R ∧ ∃ w : Wl, w.h = H ∧ Sl X.K w0 w σ ss ∧ ∀ o w', Le w w' → R o → Q o w'.h
theorem po_an {e : Option Expr} : PO X e (anO X w0 e ss) := ⟨fun pins s σ H Q I ⟨R, ⟨t, h, k⟩, q⟩ => h.run pins s σ H Q I (k σ H Q q)⟩
def cutD (ds : List PyData) (lo hi : Option Int) : List PyData := (ds.drop (HT.sIx ds.length 0 lo)).take (HT.sIx ds.length ds.length hi - HT.sIx ds.length 0 lo)
theorem DdA.cut {K : PySem.W.Frag} {H : Hp} {vs : List V} {ds : List PyData} (h : DdA K H vs ds) (lo hi : Option Int) : DdA K H (cutV vs lo hi) (cutD ds lo hi) := by
  unfold cutV cutD
  rw [h.length]
  exact (h.drop _).take _
abbrev slS (x : AV) (lo hi : Option Int) (R : AV → Prop) : Prop := match x with
  | .dat (.list ds) => R (.dat (.list (cutD ds lo hi)))
  | .dat (.tuple ds) => R (.dat (.tuple (cutD ds lo hi)))
  | .dat (.str z) => z.length ≤ 100000 ∧ R (.dat (.str (cutS z lo hi)))
  | .scr ns => R (.dat (.list ((cutD (ns.map .int) lo hi))))
  | _ => False
theorem cut_whole {α : Type} (xs : List α) (lo hi : Option Int) (h : HT.sIx xs.length 0 lo = 0 ∧ HT.sIx xs.length xs.length hi = xs.length) : (xs.drop (HT.sIx xs.length 0 lo)).take (HT.sIx xs.length xs.length hi - HT.sIx xs.length 0 lo) = xs := by
  rw [h.1, h.2, List.drop_zero, Nat.sub_zero, List.take_length]
theorem k_slc {lo hi : Option Expr} {p2 : Pos} (h : KE X w0 a ss fun x => KO X w0 lo ss fun l => KO X w0 hi ss fun u => slS x l u R) : KE X w0 (.Subscript a (.Slice lo hi none p2) pos) ss R :=
  PE.imp (pe_slice (SlR.or sl_list (SlR.or sl_tupA sl_str)) h (po_an (w0 := w0) (ss := ss)) (po_an (w0 := w0) (ss := ss))) fun σ H Q ⟨w, ew, hs, q⟩ => ⟨w, ew, hs, fun v a w1 l1 hv hk => ⟨_, hk, w1, rfl, hs.mono l1, fun l w2 l2 hk2 => ⟨_, hk2, w2, rfl, (hs.mono l1).mono l2, fun u w3 l3 hk3 => by
    have hv3 := (hv.mono l2).mono l3
    have q' : ∀ v a w', Le w3 w' → Av X.K w' v a → R a → Q v w'.h := fun v a w' l x r => q v a w' (l1.trans (l2.trans (l3.trans l))) x r
    unfold slS at hk3
    split at hk3
    · cases hv3 with
      | lst h1 d1 => exact .inl ⟨_, _, rfl, .inl (.inl (w3.sub _ _ h1)), Le.lst (d1.cut l u) hk3 q'⟩
    · cases hv3 with
      | tup h1 d1 =>
        refine .inr (.inl ⟨_, _, rfl, w3.t h1, fun e => ?_, fun _ => Le.tup (d1.cut l u) hk3 q'⟩)
        rw [show cutD _ l u = _ from cut_whole _ l u (by rw [← d1.length]; exact e)] at hk3
        exact go q' (.tup h1 d1) hk3
    · obtain ⟨hz, hr⟩ := hk3
      cases hv3
      exact .inr (.inr ⟨_, rfl, sz hz, go q' (.str _) hr⟩)
    · obtain ⟨p, rfl, hp⟩ := hv3
      rename_i ns
      refine .inl ⟨_, _, rfl, ex_l w3.sub hp, fun p hp => ?_⟩
      have hd : DdA X.K w3.g (ns.map V.int) (ns.map .int) := DdA.ofInts ns
      exact Le.lst (hd.cut l u) hk3 q' p hp
    · exact hk3.elim⟩⟩⟩
/-! ### built-ins -/
theorem CallR.or {f : Value} {r r' : List V → Hp → VK → Prop} (h : CallR X f r) (h' : CallR X f r') : CallR X f (fun xs H Q => r xs H Q ∨ r' xs H Q) := fun pins s σ H xs us Q I rx q =>
  q.elim (h pins s σ H xs us Q I rx) (h' pins s σ H xs us Q I rx)
/-- a built-in's rule by data -/
def DCl (X : Cx) (f : Value) (S : List AV → (AV → Prop) → Prop) : Prop := ∃ r, CallR X f r ∧ ∀ xs R, S xs R → DC X.K r xs R
theorem k_cB {S : List AV → (AV → Prop) → Prop} {id : String} {e : Expr} {es : List Expr} {x : Str} {p pos : Pos} (hc : DCl X (.builtin id) S) (hg : Gl X x) (hm : X.mg x = none) (hv : bootBuiltins x = some (.builtin id)) (h : KA X w0 (e :: es) ss fun as => S as R)
    (hn : x ≠ "__name__" := by decide) (hdb : (x == ("__debug__" : Str)) = false := by decide)
    (he : starEach (e :: es) X.env = (false, eval e X.env) :: starEach es X.env := by rfl) (hpl : (backTo pos (starEach es X.env)).any (·.1) = false := by rfl) : KE X w0 (.Call (.Name x p) (e :: es) [] pos) ss R := by
  obtain ⟨r, hr, hk⟩ := hc
  exact k_callB hr hg hm hv (PA.imp h fun σ H Q ⟨w, ew, hs, q⟩ => ⟨w, ew, hs, fun vs as w' l x y => q vs as w' l x (hk as R y)⟩) hn hdb he hpl
theorem k_cT {S : List AV → (AV → Prop) → Prop} {T : String} {e : Expr} {es : List Expr} {x : Str} {p pos : Pos} (hc : DCl X (.type T) S) (hg : Gl X x) (hm : X.mg x = none) (hv : bootBuiltins x = some (.type T)) (h : KA X w0 (e :: es) ss fun as => S as R)
    (hn : x ≠ "__name__" := by decide) (hdb : (x == ("__debug__" : Str)) = false := by decide)
    (he : starEach (e :: es) X.env = (false, eval e X.env) :: starEach es X.env := by rfl) (hpl : (backTo pos (starEach es X.env)).any (·.1) = false := by rfl) : KE X w0 (.Call (.Name x p) (e :: es) [] pos) ss R := by
  obtain ⟨r, hr, hk⟩ := hc
  exact k_callTy hr hg hm hv (PA.imp h fun σ H Q ⟨w, ew, hs, q⟩ => ⟨w, ew, hs, fun vs as w' l x y => q vs as w' l x (hk as R y)⟩) hn hdb he hpl
theorem AvA.one {K : PySem.W.Frag} {w : Wl} {vs : List V} {a : AV} (h : AvA K w vs [a]) : ∃ v, vs = [v] ∧ Av K w v a := by
  cases h with
  | cons x t =>
    cases t
    exact ⟨_, rfl, x⟩
theorem AvA.two {K : PySem.W.Frag} {w : Wl} {vs : List V} {a b : AV} (h : AvA K w vs [a, b]) : ∃ v u, vs = [v, u] ∧ Av K w v a ∧ Av K w u b := by
  cases h with
  | cons x t =>
    obtain ⟨u, rfl, hu⟩ := t.one
    exact ⟨_, u, rfl, x, hu⟩
abbrev lenS : List AV → (AV → Prop) → Prop
  | [.dat (.list ds)], R => R (.dat (.int ds.length))
  | [.dat (.tuple ds)], R => R (.dat (.int ds.length))
  | [.dat (.str z)], R => z.length ≤ 100000 ∧ R (.dat (.int z.length))
  | [.buf ds], R => R (.dat (.int ds.length))
  | [.scr ns], R => R (.dat (.int ns.length))
  | _, _ => False
theorem dl_len : DCl X (.builtin "len") lenS := ⟨_, CallR.or call_len_seq call_len_str, fun xs R hy vs w Q av q => by
  unfold lenS at hy
  split at hy
  · obtain ⟨v, rfl, hv⟩ := av.one
    cases hv with
    | lst h1 d1 => exact .inl ⟨_, _, rfl, .inl (.inl (.inl (w.sub _ _ h1))), go q (.int _) (by rw [d1.length]; exact hy)⟩
  · obtain ⟨v, rfl, hv⟩ := av.one
    cases hv with
    | tup h1 d1 => exact .inl ⟨_, _, rfl, .inr (w.t h1), go q (.int _) (by rw [d1.length]; exact hy)⟩
  · obtain ⟨v, rfl, hv⟩ := av.one
    cases hv
    exact .inr ⟨_, rfl, sz hy.1, go q (.int _) hy.2⟩
  · obtain ⟨v, rfl, p, us, rfl, h1, h2, d1⟩ := av.one
    exact .inl ⟨_, _, rfl, .inl (.inl (.inl h1)), go q (.int _) (by rw [d1.length]; exact hy)⟩
  · obtain ⟨v, rfl, p, rfl, h1⟩ := av.one
    exact .inl ⟨_, _, rfl, .inl (ex_l w.sub h1), go q (.int _) (by rw [List.length_map]; exact hy)⟩
  · exact hy.elim⟩
abbrev int2S (f : Int → Int → Int) : List AV → (AV → Prop) → Prop
  | [.dat (.int i), .dat (.int j)], R => R (.dat (.int (f i j)))
  | _, _ => False
theorem dl_max (hc : X.calm = true) : DCl X (.builtin "max") (int2S fun i j => if j > i then j else i) := ⟨_, call_max2 hc, fun xs R hy vs w Q av q => by
  unfold int2S at hy
  split at hy
  · obtain ⟨v, u, rfl, hv, hu⟩ := av.two
    cases hv
    cases hu
    exact ⟨_, _, rfl, go q (.int _) hy⟩
  · exact hy.elim⟩
theorem dl_min (hc : X.calm = true) : DCl X (.builtin "min") (int2S fun i j => if j < i then j else i) := ⟨_, call_min2 hc, fun xs R hy vs w Q av q => by
  unfold int2S at hy
  split at hy
  · obtain ⟨v, u, rfl, hv, hu⟩ := av.two
    cases hv
    cases hu
    exact ⟨_, _, rfl, go q (.int _) hy⟩
  · exact hy.elim⟩
abbrev intBS : List AV → (AV → Prop) → Prop
  | [.dat (.bool b)], R => R (.dat (.int (if b then 1 else 0)))
  | [.dat (.int i)], R => R (.dat (.int i))
  | _, _ => False
theorem dl_int : DCl X (.type "int") intBS := ⟨_, call_int1, fun xs R hy vs w Q av q => by
  unfold intBS at hy
  split at hy
  · obtain ⟨v, rfl, hv⟩ := av.one
    cases hv
    exact .inr ⟨_, rfl, go q (.int _) hy⟩
  · obtain ⟨v, rfl, hv⟩ := av.one
    cases hv
    exact .inl ⟨_, rfl, go q (.int _) hy⟩
  · exact hy.elim⟩
abbrev allS : List AV → (AV → Prop) → Prop
  | [.dat (.list ds)], R => ∃ bs : List Bool, ds = bs.map .bool ∧ R (.dat (.bool (bs.all id)))
  | _, _ => False
theorem dl_all (hc : X.calm = true) : DCl X (.builtin "all") allS := ⟨_, cr_all hc, fun xs R hy vs w Q av q => by
  unfold allS at hy
  split at hy
  · obtain ⟨v, rfl, hv⟩ := av.one
    obtain ⟨bs, rfl, hr⟩ := hy
    cases hv with
    | lst h1 d1 =>
      rw [d1.bls] at h1
      exact ⟨_, bs, rfl, .inl (.inl (w.sub _ _ h1)), go q (.bl _) hr⟩
  · exact hy.elim⟩
abbrev listS : List AV → (AV → Prop) → Prop
  | [.dat (.list ds)], R => R (.dat (.list ds))
  | [.dat (.tuple ds)], R => R (.dat (.list ds))
  | _, _ => False
theorem dl_list : DCl X (.type "list") listS := ⟨_, call_list_of, fun xs R hy vs w Q av q => by
  unfold listS at hy
  split at hy
  · obtain ⟨v, rfl, hv⟩ := av.one
    cases hv with
    | lst h1 d1 => exact ⟨_, _, rfl, .inl (.inl (.inl (w.sub _ _ h1))), Le.lst d1 hy q⟩
  · obtain ⟨v, rfl, hv⟩ := av.one
    cases hv with
    | tup h1 d1 => exact ⟨_, _, rfl, .inr (w.t h1), Le.lst d1 hy q⟩
  · exact hy.elim⟩
abbrev sortedTS : List AV → (AV → Prop) → Prop
  | [.dat (.list ds)], R => ∃ xs : List Str, ds = xs.map .str ∧ xs.length < 64 ∧ ∀ ys : List Str, ys.Perm xs → sortedS ys = true → R (.dat (.list (ys.map .str)))
  | _, _ => False
theorem dl_sorted : DCl X (.builtin "sorted") sortedTS := ⟨_, cr_sortedS, fun xs R hy vs w Q av q => by
  unfold sortedTS at hy
  split at hy
  · obtain ⟨v, rfl, hv⟩ := av.one
    obtain ⟨ys, rfl, hz, hr⟩ := hy
    cases hv with
    | lst h1 d1 =>
      rw [d1.strs] at h1
      exact ⟨_, ys, rfl, .inl (.inl (w.sub _ _ h1)), hz, fun zs p hp hs hf => Le.lst (DdA.ofStrs zs) (hr zs hp hs) q p hf⟩
  · exact hy.elim⟩
/-! ### isinstance -/
def tyD : PyData → String
  | .none => "NoneType"
  | .bool _ => "bool"
  | .int _ => "int"
  | .str _ => "str"
  | .list _ => "list"
  | .tuple _ => "tuple"
  | .dict _ => "dict"
theorem Dd.ty {K : PySem.W.Frag} {H : Hp} {v : V} {d : PyData} (h : Dd K H v d) : TyX K H v (.type (tyD d)) := by
  cases h with
  | non => exact .base .non
  | bl b => exact .base (.bl b)
  | int i => exact .base (.int i)
  | str x => exact .base (.str x)
  | lst h d => exact .base (.lst h)
  | tup h d =>
    rcases h with (h | ⟨o, h⟩) | ⟨o, its, n, h, hc, _⟩
    · exact .base (.tup h)
    · exact .fTuple h
    · exact .kTuple h hc
  | dic h => exact .base (.dK h)
/-- a built-in class as the second argument -/
theorem k_isi {T : String} {e : Expr} {x : Str} {p p2 pos : Pos} (hg : Gl X "isinstance") (hm : X.mg "isinstance" = none) (hg2 : Gl X x) (hm2 : X.mg x = none) (hv2 : bootBuiltins x = some (.type T))
    (h : KE X w0 e ss fun a => onDat a fun d => ∃ c, kitB (tyD d) T = some c ∧ R (.dat (.bool c))) (hn : x ≠ "__name__" := by decide) (hdb : (x == ("__debug__" : Str)) = false := by decide)
    (he : starEach [e, .Name x p2] X.env = (false, eval e X.env) :: starEach [.Name x p2] X.env := by rfl) (hpl : (backTo pos (starEach [.Name x p2] X.env)).any (·.1) = false := by rfl)
    (he2 : starEach [.Name x p2] X.env = (false, eval (.Name x p2) X.env) :: starEach [] X.env := by rfl) : KE X w0 (.Call (.Name "isinstance" p) [e, .Name x p2] [] pos) ss R :=
  PE.imp (pe_callB call_isi hg hm (by decide +kernel) (pa_cons h (pa_cons (pe_bltn hg2 hm2 hv2 (v := .ty T) rfl hn hdb) pa_nil he2) he) (by decide) (by decide) he hpl) fun σ H Q ⟨w, ew, hs, q⟩ => ⟨w, ew, hs, fun v a w1 l1 hv hk => by
    obtain ⟨d, rfl, c, hc, hr⟩ := hk.of
    exact ⟨v, .ty T, _, _, c, rfl, .ty T, Dd.ty (Dd.mono w1.sub hv), kit_ty hc, q (.bl c) (.dat (.bool c)) w1 l1 (.bl c) hr⟩⟩
/-! ### chains -/
theorem k_chain {op op' : CmpOp} {c : Expr} {S S' : AV → AV → (Bool → Prop) → Prop} (hc : DCmp X op S) (hc' : DCmp X op' S') (h : KE X w0 a ss fun x => KE X w0 b ss fun y => S x y fun t => iteP t (KE X w0 c ss fun z => S' y z fun u => R (.dat (.bool u))) (R (.dat (.bool false))))
    (hm : lastMarks [op, op'] [b, c] = false := by with_unfolding_all rfl) : KE X w0 (.Compare a [op, op'] [b, c] pos) ss R := by
  obtain ⟨r, ho, hk⟩ := hc
  obtain ⟨r', ho', hk'⟩ := hc'
  refine PE.imp (pe_chain ho ho' h (pe_an (w0 := w0) (ss := ss)) (pe_an (w0 := w0) (ss := ss)) hm) fun σ H Q ⟨w, ew, hs, q⟩ => ⟨w, ew, hs, fun v x w1 l1 hv hb => ⟨_, hb, w1, rfl, hs.mono l1, fun v2 y w2 l2 hv2 hS => ?_⟩⟩
  refine hk x y (fun t => onBool t fun t => iteP t (KE X w0 c ss fun z => S' y z fun u => R (.dat (.bool u))) (R (.dat (.bool false)))) hS v v2 w2 _ (hv.mono l2) hv2 fun v3 t w3 l3 hv3 ht => ?_
  obtain ⟨t, rfl, ht⟩ := ht.of
  cases hv3
  refine ⟨t, rfl, ?_⟩
  cases t
  · exact iteF (q (.bl false) (.dat (.bool false)) w3 (l1.trans (l2.trans l3)) (.bl _) ht)
  · refine iteT ⟨_, ht, w3, rfl, (hs.mono l1).mono (l2.trans l3), fun v4 z w4 l4 hv4 hS' => ?_⟩
    exact hk' y z R hS' v2 v4 w4 Q (hv2.mono (l3.trans l4)) hv4 fun v5 a5 w5 l5 hv5 r5 => q v5 a5 w5 (l1.trans (l2.trans (l3.trans (l4.trans l5)))) hv5 r5
end
end Kp


namespace Kp
open PySem PySem.Spec PyProof.Rows L2
/-! ### what is walked, as data -/
def WalkD (K : PySem.W.Frag) (w : Wl) (J : It) (ds : List PyData) : Prop := ∀ w' : Wl, Ex w.g w'.g → ∀ i : Nat,
  (∀ d, ds[i]? = some d → J.go i w'.h ∧ ∀ x H', J.yld i w'.h x H' → ∃ w'' : Wl, w''.h = H' ∧ Le w' w'' ∧ Dd K w''.g x d) ∧ (ds.length ≤ i → J.stop i w'.h)
def iOf (K : PySem.W.Frag) (w0 : Wl) (ss : SS) (R : List PyData → Prop) : TI := fun σ H RR => ∃ w : Wl, w.h = H ∧ Sl K w0 w σ ss ∧ ∀ J ds w', Le w w' → WalkD K w' J ds → R ds → RR J w'.h
abbrev KI (X : Cx) (w0 : Wl) (tg e : Expr) (ss : SS) (R : List PyData → Prop) : Prop := PI X tg e (iOf X.K w0 ss R)
section
variable {X : Cx} {w0 : Wl} {ss : SS} {a b tg : Expr} {pos : Pos}
theorem PI.imp {e : Expr} {t t' : TI} (h : PI X tg e t) (k : ∀ σ H R, t' σ H R → t σ H R) : PI X tg e t' := ⟨fun pins s σ H R I q => h.run pins s σ H R I (k σ H R q)⟩
theorem walk_list {K : PySem.W.Frag} {w : Wl} {p : Addr} {vs : List V} {ds : List PyData} (h : SqL K w.g p vs) (hd : DdA K w.g vs ds) : WalkD K w (Itl K p) ds := fun w' e i => by
  have h' : SqL K w'.h p vs := ex_l w'.sub (ex_l e h)
  refine ⟨fun d hi => ?_, fun hl => ⟨vs, h', by rw [hd.length]; exact hl⟩⟩
  obtain ⟨v, hv, q⟩ := hd.get hi
  refine ⟨⟨vs, v, h', hv⟩, fun x H' y => ?_⟩
  obtain ⟨rfl, y⟩ := y
  have := y vs h'
  rw [hv] at this
  cases this
  exact ⟨w', rfl, Le.refl w', q.mono e⟩
theorem walk_tup {K : PySem.W.Frag} {w : Wl} {p : Addr} {vs : List V} {ds : List PyData} (h : SqT K w.g p vs) (hd : DdA K w.g vs ds) : WalkD K w (Itt K p) ds := fun w' e i => by
  have h' : SqT K w'.h p vs := ex_t w'.sub (ex_t e h)
  refine ⟨fun d hi => ?_, fun hl => ⟨vs, h', by rw [hd.length]; exact hl⟩⟩
  obtain ⟨v, hv, q⟩ := hd.get hi
  refine ⟨⟨vs, v, h', hv⟩, fun x H' y => ?_⟩
  obtain ⟨rfl, y⟩ := y
  have := y vs h'
  rw [hv] at this
  cases this
  exact ⟨w', rfl, Le.refl w', q.mono e⟩
def rangeD (lo : Int) (n : Nat) : List PyData := (List.range n).map fun (i : Nat) => PyData.int (lo + (i : Int))
theorem walk_range {K : PySem.W.Frag} {w : Wl} {lo : Int} {n : Nat} : WalkD K w (Itr lo n) (rangeD lo n) := fun w' e i => by
  have hl : (rangeD lo n).length = n := by unfold rangeD; rw [List.length_map, List.length_range]
  refine ⟨fun d hi => ?_, fun h => by rw [hl] at h; exact h⟩
  have hlt : i < n := by
    have this := (List.getElem?_eq_some_iff.mp hi).1
    rw [hl] at this
    exact this
  have hd : d = .int (lo + i) := by
    unfold rangeD at hi
    rw [List.getElem?_map, List.getElem?_range hlt] at hi
    exact (Option.some.inj hi).symm
  subst hd
  refine ⟨hlt, fun x H' y => ?_⟩
  obtain ⟨rfl, rfl⟩ := y
  exact ⟨w', rfl, Le.refl w', .int _⟩
def signsD (z : Str) : List PyData := z.cps.toList.map fun c => .str ⟨#[c]⟩
theorem walk_str {K : PySem.W.Frag} {w : Wl} {z : Str} : WalkD K w (Its z) (signsD z) := fun w' e i => by
  have hl : (signsD z).length = z.cps.size := by unfold signsD; rw [List.length_map, Array.length_toList]
  refine ⟨fun d hi => ?_, fun h => by rw [hl] at h; exact h⟩
  have hlt : i < z.cps.size := by
    have this := (List.getElem?_eq_some_iff.mp hi).1
    rw [hl] at this
    exact this
  refine ⟨hlt, fun x H' y => ?_⟩
  obtain ⟨rfl, c, hc, rfl⟩ := y
  unfold signsD at hi
  rw [List.getElem?_map, Array.getElem?_toList, hc] at hi
  cases hi
  exact ⟨w', rfl, Le.refl w', .str _⟩
theorem walk_zipT {K : PySem.W.Frag} {w : Wl} {p q : Addr} {vs us : List V} {ds es : List PyData} (h : SqT K w.g p vs) (hd : DdA K w.g vs ds) (h2 : SqT K w.g q us) (hd2 : DdA K w.g us es) (hl : ds.length = es.length) :
    WalkD K w (RZ.ItzT K p q) ((ds.zip es).map fun x => .tuple [x.1, x.2]) := fun w' e i => by
  have h' : SqT K w'.h p vs := ex_t w'.sub (ex_t e h)
  have h2' : SqT K w'.h q us := ex_t w'.sub (ex_t e h2)
  refine ⟨fun d hi => ?_, fun hz => ⟨vs, us, h', h2', .inl ?_⟩⟩
  · rw [List.getElem?_map] at hi
    cases hz : (ds.zip es)[i]? with
    | none => rw [hz] at hi; cases hi
    | some z =>
      rw [hz] at hi
      cases hi
      obtain ⟨z1, z2⟩ := List.getElem?_zip_eq_some.mp hz
      obtain ⟨v, hv, q1⟩ := hd.get z1
      obtain ⟨u, hu, q2⟩ := hd2.get z2
      refine ⟨⟨vs, us, v, u, h', h2', hv, hu⟩, fun x H' y => ?_⟩
      obtain ⟨T, x1, y1, rfl, hT, rfl, k1, k2⟩ := y
      have e1 := k1 vs h'
      have e2 := k2 us h2'
      rw [hv] at e1
      rw [hu] at e2
      cases e1
      cases e2
      have le := Le.put (o := .tup [v, u]) hT
      exact ⟨w'.put T (.tup [v, u]), rfl, le, .tup (.inl (.inl upd_same)) (.cons ((q1.mono e).mono le.g) (.cons ((q2.mono e).mono le.g) .nil))⟩
  · rw [List.length_map, List.length_zip, ← hl, Nat.min_self] at hz
    rw [hd.length]
    exact hz
def enumD (ds : List PyData) : List PyData := ds.zipIdx.map fun x => .tuple [.int (x.2 : Nat), x.1]
theorem walk_enum {K : PySem.W.Frag} {w : Wl} {p : Addr} {vs : List V} {ds : List PyData} (h : SqL K w.g p vs) (hd : DdA K w.g vs ds) : WalkD K w (Ite K p) (enumD ds) := fun w' e i => by
  have h' : SqL K w'.h p vs := ex_l w'.sub (ex_l e h)
  refine ⟨fun d hi => ?_, fun hz => ⟨vs, h', ?_⟩⟩
  · unfold enumD at hi
    rw [List.getElem?_map, List.getElem?_zipIdx] at hi
    cases hz : ds[i]? with
    | none => rw [hz] at hi; cases hi
    | some z =>
      rw [hz] at hi
      cases hi
      obtain ⟨v, hv, q1⟩ := hd.get hz
      refine ⟨⟨vs, v, h', hv⟩, fun x H' y => ?_⟩
      obtain ⟨T, x1, rfl, hT, rfl, k1⟩ := y
      have e1 := k1 vs h'
      rw [hv] at e1
      cases e1
      have le := Le.put (o := .tup [.int (i : Nat), v]) hT
      refine ⟨w'.put T (.tup [.int (i : Nat), v]), rfl, le, .tup (.inl (.inl upd_same)) (.cons ?_ (.cons ((q1.mono e).mono le.g) .nil))⟩
      show Dd K _ (.int (i : Nat)) (.int ((0 + i : Nat) : Int))
      rw [Nat.zero_add]
      exact .int _
  · unfold enumD at hz
    rw [List.length_map, List.length_zipIdx] at hz
    rw [hd.length]
    exact hz
abbrev onList (a : AV) (P : List PyData → Prop) : Prop := match a with | .dat (.list ds) => P ds | _ => False
abbrev onTup (a : AV) (P : List PyData → Prop) : Prop := match a with | .dat (.tuple ds) => P ds | _ => False
abbrev onStr (a : AV) (P : Str → Prop) : Prop := match a with | .dat (.str ds) => P ds | _ => False
theorem ki_list {R : List PyData → Prop} (h : KE X w0 a ss fun x => onList x R) : KI X w0 tg a ss R := PI.imp (pi_list h) fun σ H RR ⟨w, ew, hs, q⟩ => ⟨w, ew, hs, fun v x w1 l1 hv hk => by
  have hk : onList x R := hk
  unfold onList at hk
  split at hk
  · cases hv with
    | lst h1 d1 => exact ⟨_, rfl, ⟨_, .inl (.inl (w1.sub _ _ h1))⟩, q _ _ w1 l1 (walk_list (.inl (.inl h1)) d1) hk⟩
  · exact hk.elim⟩
theorem ki_tup {R : List PyData → Prop} (h : KE X w0 a ss fun x => onTup x R) : KI X w0 tg a ss R := PI.imp (pi_tup h) fun σ H RR ⟨w, ew, hs, q⟩ => ⟨w, ew, hs, fun v x w1 l1 hv hk => by
  have hk : onTup x R := hk
  unfold onTup at hk
  split at hk
  · cases hv with
    | tup h1 d1 => exact ⟨_, rfl, ⟨_, w1.t h1⟩, q _ _ w1 l1 (walk_tup h1 d1) hk⟩
  · exact hk.elim⟩
theorem ki_str {R : List PyData → Prop} (h : KE X w0 a ss fun x => onStr x fun z => R (signsD z)) : KI X w0 tg a ss R := PI.imp (pi_str h) fun σ H RR ⟨w, ew, hs, q⟩ => ⟨w, ew, hs, fun v x w1 l1 hv hk => by
  have hk : onStr x (fun z => R (signsD z)) := hk
  unfold onStr at hk
  split at hk
  · cases hv
    exact ⟨_, rfl, q _ _ w1 l1 walk_str hk⟩
  · exact hk.elim⟩
theorem ki_rng1 {p : Pos} {R : List PyData → Prop} (hg : Gl X "range") (hm : X.mg "range" = none) (h : KE X w0 a ss fun x => onInt x fun n => -(2 ^ 62) ≤ n ∧ n < 2 ^ 62 ∧ R (rangeD 0 n.toNat)) (hs : starEach [a] X.env = [(false, eval a X.env)] := by rfl) : KI X w0 tg (.Call (.Name "range" p) [a] [] pos) ss R :=
  PI.imp (pi_range1 hg hm (ka_cons (R := fun as => ∃ n : Int, as = [.dat (.int n)] ∧ -(2 ^ 62) ≤ n ∧ n < 2 ^ 62 ∧ R (rangeD 0 n.toNat)) (KE.weak h fun x hx => ka_nil (by
    obtain ⟨n, rfl, k⟩ := hx.of
    exact ⟨n, rfl, k⟩)) hs) hs) fun σ H RR ⟨w, ew, hs, q⟩ => ⟨w, ew, hs, fun vs as w1 l1 hv hk => by
    obtain ⟨n, rfl, k1, k2, k3⟩ := hk
    obtain ⟨v, rfl, hv1⟩ := hv.one
    cases hv1
    exact ⟨n, rfl, k1, k2, q _ _ w1 l1 walk_range k3⟩⟩
theorem ki_rng2 {p : Pos} {R : List PyData → Prop} (hg : Gl X "range") (hm : X.mg "range" = none) (h : KA X w0 [a, b] ss fun as => ∃ lo n : Int, as = [.dat (.int lo), .dat (.int n)] ∧ (-(2 ^ 62) ≤ lo ∧ lo < 2 ^ 62 ∧ -(2 ^ 62) ≤ n ∧ n < 2 ^ 62) ∧ R (rangeD lo (n - lo).toNat))
    (hs : starEach [a, b] X.env = [(false, eval a X.env), (false, eval b X.env)] := by rfl) (hs2 : starEach [b] X.env = [(false, eval b X.env)] := by rfl) : KI X w0 tg (.Call (.Name "range" p) [a, b] [] pos) ss R :=
  PI.imp (pi_range2 hg hm h hs hs2) fun σ H RR ⟨w, ew, hs, q⟩ => ⟨w, ew, hs, fun vs as w1 l1 hv hk => by
    obtain ⟨lo, n, rfl, k1, k3⟩ := hk
    obtain ⟨v, u, rfl, hv1, hu⟩ := hv.two
    cases hv1
    cases hu
    exact ⟨lo, n, rfl, k1, q _ _ w1 l1 walk_range k3⟩⟩
theorem ki_zip {p tpos : Pos} {elts : List Expr} {kk : Nat} {R : List PyData → Prop} (hg : Gl X "zip") (hm : X.mg "zip" = none) (h : KA X w0 [a, b] ss fun as => ∃ ds es : List PyData, as = [.dat (.tuple ds), .dat (.tuple es)] ∧ ds.length = es.length ∧ R ((ds.zip es).map fun x => .tuple [x.1, x.2]))
    (hs : starEach [a, b] X.env = (false, eval a X.env) :: starEach [b] X.env := by rfl) (hpl : (backTo pos (starEach [b] X.env)).any (·.1) = false := by rfl) : KI X w0 (.Tuple elts kk tpos) (.Call (.Name "zip" p) [a, b] [] pos) ss R :=
  PI.imp (RZ.pi_zipA hg hm h hs hpl) fun σ H RR ⟨w, ew, hs, q⟩ => ⟨w, ew, hs, fun vs as w1 l1 hv hk => by
    obtain ⟨ds, es, rfl, hl, k3⟩ := hk
    obtain ⟨v, u, rfl, hv1, hu⟩ := hv.two
    cases hv1 with
    | tup h1 d1 =>
      cases hu with
      | tup h2 d2 => exact ⟨_, _, _, _, rfl, .inr ⟨w1.t h1, w1.t h2, q _ _ w1 l1 (walk_zipT h1 d1 h2 d2 hl) k3⟩⟩⟩
theorem ki_enum {p tpos : Pos} {elts : List Expr} {kk : Nat} {R : List PyData → Prop} (hg : Gl X "enumerate") (hm : X.mg "enumerate" = none) (h : KE X w0 a ss fun x => onList x fun ds => R (enumD ds)) (hs : starEach [a] X.env = [(false, eval a X.env)] := by rfl) :
    KI X w0 (.Tuple elts kk tpos) (.Call (.Name "enumerate" p) [a] [] pos) ss R :=
  PI.imp (pi_enum hg hm (ka_cons (R := fun as => ∃ ds : List PyData, as = [.dat (.list ds)] ∧ R (enumD ds)) (KE.weak h fun x hx => ka_nil (by
    unfold onList at hx
    split at hx
    · exact ⟨_, rfl, hx⟩
    · exact hx.elim)) hs) hs) fun σ H RR ⟨w, ew, hs, q⟩ => ⟨w, ew, hs, fun vs as w1 l1 hv hk => by
    obtain ⟨ds, rfl, k3⟩ := hk
    obtain ⟨v, rfl, hv1⟩ := hv.one
    cases hv1 with
    | lst h1 d1 => exact ⟨_, _, rfl, .inl (.inl (w1.sub _ _ h1)), q _ _ w1 l1 (walk_enum (.inl (.inl h1)) d1) k3⟩⟩

/-! ### targets -/
/-- a target stores an item: what the state is then -/
structure TgOk (K : PySem.W.Frag) (w0 : Wl) (g : TG) (T : PyData → SS → (SS → Prop) → Prop) (vs : List Nat) : Prop where
  go : ∀ v d w σ ss (P : SS → Prop) (Q : L2.St → Hp → Prop), Dd K w.g v d → Sl K w0 w σ ss → T d ss P → (∀ σ' ss', Sl K w0 w σ' ss' → wipe σ' vs = wipe σ vs → P ss' → Q σ' w.h) → g v σ w.h Q
abbrev tg1 (j : Nat) (d : PyData) (ss : SS) (P : SS → Prop) : Prop := P (ss.set j (some (.dat d)))
theorem tgok1 {K : PySem.W.Frag} (j : Nat) : TgOk K w0 (gName j) (tg1 j) [j] := ⟨fun v d w σ ss P Q hd hs hT q => q _ _ (hs.set (a := .dat d) j rfl hd) (by
  show (σ.set j (some v)).set j none = σ.set j none
  rw [List.set_set]) hT⟩
abbrev tg2 (j k : Nat) (d : PyData) (ss : SS) (P : SS → Prop) : Prop := match d with | .tuple [d1, d2] => P ((ss.set j (some (.dat d1))).set k (some (.dat d2))) | _ => False
theorem tgok2 {K : PySem.W.Frag} (j k : Nat) (hjk : j ≠ k) : TgOk K w0 (gTup K 2 (gCons (gName j) (gCons (gName k) gNil))) (tg2 j k) [j, k] := ⟨fun v d w σ ss P Q hd hs hT q => by
  unfold tg2 at hT
  split at hT
  · rename_i d1 d2
    cases hd with
    | tup h1 a1 =>
      cases a1 with
      | cons b1 a1 =>
        cases a1 with
        | cons b2 a1 =>
          cases a1
          refine ⟨_, _, rfl, w.t h1, rfl, _, _, rfl, _, _, rfl, rfl, q _ _ ((hs.set (a := .dat d1) j rfl b1).set (a := .dat d2) k rfl b2) ?_ hT⟩
          show (((σ.set j _).set k _).set k none).set j none = (σ.set k none).set j none
          rw [List.set_set, List.set_comm _ _ hjk, List.set_set, List.set_comm _ _ (Ne.symm hjk)]
  · exact hT.elim⟩
/-! ### comprehensions -/
abbrev BE (X : Cx) (w0 : Wl) (scope : Scope) (e : Expr) (ss : SS) (R : AV → Prop) : Prop := ∀ (s : Shared) (H : Hp) (C : Addr) (cl : List (Str × Addr)) (fp : List Addr), KE (X.blk s H scope (compEnvC scope cl C X.env) fp) w0 e ss R
abbrev BT (X : Cx) (w0 : Wl) (scope : Scope) (e : Expr) (ss : SS) (R : Bool → Prop) : Prop := ∀ (s : Shared) (H : Hp) (C : Addr) (cl : List (Str × Addr)) (fp : List Addr), KT (X.blk s H scope (compEnvC scope cl C X.env) fp) w0 e ss R
def anBE (X : Cx) (w0 : Wl) (scope : Scope) (e : Expr) : TE := fun σ H Q => ∃ ss R, BE X w0 scope e ss R ∧ teOf X.K w0 ss R σ H Q
def anBT (X : Cx) (w0 : Wl) (scope : Scope) (e : Expr) : TT := fun σ H Q => ∃ ss R, BT X w0 scope e ss R ∧ ttOf X.K w0 ss R σ H Q
def wipeS : SS → List Nat → SS
  | ss, [] => ss
  | ss, v :: vs => (wipeS ss vs).set v none
theorem Sl.wipe {K : PySem.W.Frag} {w : Wl} {σ : L2.St} (h : Sl K w0 w σ ss) : ∀ vs, Sl K w0 w (L2.wipe σ vs) (wipeS ss vs)
  | [] => h
  | v :: vs => by
    have ih := Sl.wipe h vs
    have nb : ∀ {j : Nat} {a : AV}, ((wipeS ss vs).set v none)[j]? = some (some a) → v ≠ j := fun {j a} e z => by
      subst z
      rw [List.getElem?_set_self (set_lt e)] at e
      cases e
    refine ⟨ih.le, by show ((L2.wipe σ vs).set v none).length = ((wipeS ss vs).set v none).length; rw [List.length_set, List.length_set]; exact ih.len, fun j a e => ?_, fun j k ds es u hjk e1 e2 e3 => ?_, fun j ds p e1 e2 => ?_, ih.so, fun j ds p e1 e2 => ?_⟩
    · have n := nb e
      have e : ((wipeS ss vs).set v none)[j]? = some (some a) := e
      rw [List.getElem?_set_ne n] at e
      obtain ⟨x, h1, h2⟩ := ih.at_ j a e
      exact ⟨x, by show ((L2.wipe σ vs).set v none)[j]? = _; rw [List.getElem?_set_ne n]; exact h1, h2⟩
    · have n1 := nb e1
      have n2 := nb e2
      have e1 : ((wipeS ss vs).set v none)[j]? = _ := e1
      have e2 : ((wipeS ss vs).set v none)[k]? = _ := e2
      have e3 : ((L2.wipe σ vs).set v none)[j]? = _ := e3
      rw [List.getElem?_set_ne n1] at e1 e3
      rw [List.getElem?_set_ne n2] at e2
      show ((L2.wipe σ vs).set v none)[k]? ≠ _
      rw [List.getElem?_set_ne n2]
      exact ih.ap j k ds es u hjk e1 e2 e3
    · have n1 := nb e1
      have e1 : ((wipeS ss vs).set v none)[j]? = _ := e1
      have e2 : ((L2.wipe σ vs).set v none)[j]? = _ := e2
      rw [List.getElem?_set_ne n1] at e1 e2
      exact ih.fr j ds p e1 e2
    · have n1 := nb e1
      have e1 : ((wipeS ss vs).set v none)[j]? = _ := e1
      have e2 : ((L2.wipe σ vs).set v none)[j]? = _ := e2
      rw [List.getElem?_set_ne n1] at e1 e2
      exact ih.sd j ds p e1 e2
/-- the tests of a comprehension: none, or one -/
abbrev testS (X : Cx) (w0 : Wl) (scope : Scope) (ifs : List Expr) (ss : SS) (Y N : Prop) : Prop := match ifs with
  | [] => Y
  | [c] => BT X w0 scope c ss fun b => iteP b Y N
  | _ => False
def ttS (X : Cx) (w0 : Wl) (scope : Scope) (ifs : List Expr) : TT := match ifs with
  | [] => tYes
  | [c] => anBT X w0 scope c
  | _ => fun _ _ _ => False
theorem pts_S {scope : Scope} {ifs : List Expr} (s : Shared) (H : Hp) (C : Addr) (cl : List (Str × Addr)) (fp : List Addr) : PTs (X.blk s H scope (compEnvC scope cl C X.env) fp) ifs (ttS X w0 scope ifs) := by
  match ifs with
  | [] => exact pts_nil
  | [c] => exact pts_one ⟨fun pins s' σ H' Q I ⟨_, _, h, q⟩ => (h s H C cl fp).run pins s' σ H' Q I q⟩
  | _ :: _ :: _ => exact ⟨fun pins s' σ H' Q I h => h.elim⟩
/-- the reading of a comprehension, over data -/
theorem lcK {elt : Expr} {ifs : List Expr} {scope : Scope} {own : List (Str × Nat)} {g : TG} {T : PyData → SS → (SS → Prop) → Prop} {R : List PyData → Prop} (hT : TgOk X.K w0 g T (own.map (·.2))) (σ : L2.St) (H : Hp) (Q : VK) (hq : tnOf X.K w0 ss R σ H Q) :
    tLc (iOf X.K w0 ss fun ds => ds.length ≤ 50000 ∧ ∃ P : Nat → List PyData → Prop, P 0 [] ∧
      (∀ i d acc, ds[i]? = some d → P i acc → T d (wipeS ss (own.map (·.2))) fun ss' => testS X w0 scope ifs ss' (BE X w0 scope elt ss' fun e => onDat e fun e => P (i + 1) (acc ++ [e])) (P (i + 1) acc)) ∧ ∀ es, P ds.length es → R es) g (ttS X w0 scope ifs) (anBE X w0 scope elt) (own.map (·.2)) σ H Q := by
  obtain ⟨w, ew, hsl, q⟩ := hq
  refine ⟨w, ew, hsl, fun J ds w1 l1 walk hk D hD => ?_⟩
  obtain ⟨hz, P, p0, pt, pe⟩ := hk
  have hsl1 := hsl.mono l1
  have hgD : w1.g D = none := w1.gfree hD
  have hwD : w.h D = none := by
    cases e : w.h D with
    | none => rfl
    | some o =>
      have := l1.h D o e
      rw [hD] at this
      cases this
  let Inv := fun (i : Nat) (H' : Hp) => ∃ (w' : Wl) (vs : List V) (es : List PyData), w'.h = H' ∧ Le w1 w' ∧ w'.h D = some (.lst vs) ∧ w'.g D = none ∧ DdA X.K w'.g vs es ∧ P i es ∧ vs.length ≤ i
  refine ⟨fun i m H' => m = ds.length - i ∧ i ≤ ds.length ∧ Inv i H', ⟨ds.length, by simp, Nat.zero_le _, w1.own D (.lst []) hgD, [], [], rfl, Le.own hD, upd_same, hgD, .nil, p0, Nat.le_refl 0⟩, ?_⟩
  rintro i m H' ⟨rfl, hi, w', vs, es, rfl, le, h1, h2, hd, hp, hv⟩
  by_cases hlt : i < ds.length
  · refine .inr ?_
    have hget : ds[i]? = some ds[i] := by simp [hlt]
    obtain ⟨hgo, hy⟩ := (walk w' le.g i).1 _ hget
    refine ⟨hgo, Inv (i + 1), fun H2 iv => ⟨ds.length - (i + 1), by omega, rfl, hlt, iv⟩, fun x H2 y => ?_⟩
    obtain ⟨w2, rfl, l2, hx⟩ := hy x H2 y
    have le2 := le.trans l2
    have D1 : w2.h D = some (.lst vs) := l2.h _ _ h1
    have D2 : w2.g D = none := l2.hid D (by rw [h1]; simp) h2
    refine hT.go x ds[i] w2 _ _ _ _ hx ((hsl1.mono le2).wipe _) (pt i _ es hget hp) fun σ2 ss2 hs2 hw2 k2 => ⟨by
      rw [hw2]
      exact wipe_idem _ _, ?_⟩
    have elt_ok : ∀ w3 : Wl, Le w2 w3 → BE X w0 scope elt ss2 (fun e => onDat e fun e => P (i + 1) (es ++ [e])) →
        anBE X w0 scope elt σ2 w3.h fun y H4 => ∃ acc, H4 D = some (.lst acc) ∧ acc.length < sizeLine ∧ Inv (i + 1) (upd H4 D (.lst (acc ++ [y]))) := fun w3 l3 he => by
      refine ⟨ss2, _, he, w3, rfl, hs2.mono l3, fun v a w4 l4 hv4 ha => ?_⟩
      obtain ⟨e, rfl, hP⟩ := ha.of
      have l34 := l3.trans l4
      have E1 : w4.h D = some (.lst vs) := l34.h _ _ D1
      have E2 : w4.g D = none := l34.hid D (by rw [D1]; simp) D2
      refine ⟨vs, E1, Nat.lt_of_le_of_lt (Nat.le_trans hv (Nat.le_of_lt (Nat.lt_of_lt_of_le hlt hz))) (by decide), w4.own D (.lst (vs ++ [v])) E2, vs ++ [v], es ++ [e], rfl, ⟨(le2.trans l34).g, fun b o eo => ?_, fun b b1 b2 => (le2.trans l34).hid b b1 b2⟩, upd_same, E2, ((hd.mono l2.g).mono l34.g).append (.cons hv4 .nil), hP, by rw [List.length_append]; exact Nat.succ_le_succ hv⟩
      show upd w4.h D _ b = some o
      rw [upd_ne (ne_of_none eo hD)]
      exact (le2.trans l34).h b o eo
    have no_ok : ∀ w3 : Wl, Le w2 w3 → P (i + 1) es → Inv (i + 1) w3.h := fun w3 l3 hP => ⟨w3, vs, es, rfl, le2.trans l3, l3.h _ _ D1, l3.hid D (by rw [D1]; simp) D2, (hd.mono l2.g).mono l3.g, hP, Nat.le_succ_of_le hv⟩
    unfold testS at k2
    unfold ttS
    split at k2
    · exact iteT (B := Inv (i + 1) w2.h) (elt_ok w2 (Le.refl _) k2)
    · refine ⟨ss2, _, k2, w2, rfl, hs2, fun b w3 l3 hb => ?_⟩
      cases b
      · exact iteF (no_ok w3 l3 hb)
      · exact iteT (elt_ok w3 l3 hb)
    · exact k2.elim
  · have e : i = ds.length := by omega
    subst e
    refine .inl ⟨(walk w' le.g ds.length).2 (Nat.le_refl _), ?_⟩
    exact q D vs es w' (l1.trans le) hwD h1 h2 hd (pe es hp)
where
  wipe_idem : ∀ (σ : L2.St) (vs : List Nat), L2.wipe (L2.wipe σ vs) vs = L2.wipe σ vs := by
    intro σ vs
    apply List.ext_getElem?
    intro i
    by_cases hi : i ∈ vs
    · have z : ∀ (τ : L2.St) (us : List Nat), i ∈ us → (L2.wipe τ us)[i]? = if i < τ.length then some none else none := by
        intro τ us
        induction us with
        | nil => intro h; cases h
        | cons u us ih =>
          intro h
          show ((L2.wipe τ us).set u none)[i]? = _
          by_cases hu : u = i
          · subst hu
            by_cases hl : u < τ.length
            · rw [List.getElem?_set_self (by rw [wipe_length]; exact hl), if_pos hl]
            · rw [List.getElem?_eq_none (by rw [List.length_set, wipe_length]; omega), if_neg hl]
          · rw [List.getElem?_set_ne hu]
            exact ih ((List.mem_cons.mp h).resolve_left fun q => hu q.symm)
      rw [z _ _ hi, z _ _ hi, wipe_length]
    · rw [wipe_out hi]
/-- P: what is made behind so many items -/
theorem kn_lc {elt iter : Expr} {ifs : List Expr} {scope : Scope} {own : List (Str × Nat)} {g : TG} {T : PyData → SS → (SS → Prop) → Prop} {R : List PyData → Prop} (hc : X.calm = true) (hN : X.N.Nodup) (ok : BlkOk X.N X.env.scope scope own)
    (hT : TgOk X.K w0 g T (own.map (·.2)))
    (hg : ∀ (s : Shared) (H : Hp) (C : Addr) (cl : List (Str × Addr)) (fp : List Addr), PG (X.blk s H scope (compEnvC scope cl C X.env) fp) tg g)
    (h : KI X w0 tg iter ss fun ds => ds.length ≤ 50000 ∧ ∃ P : Nat → List PyData → Prop, P 0 [] ∧
      (∀ i d acc, ds[i]? = some d → P i acc → T d (wipeS ss (own.map (·.2))) fun ss' => testS X w0 scope ifs ss' (BE X w0 scope elt ss' fun e => onDat e fun e => P (i + 1) (acc ++ [e])) (P (i + 1) acc)) ∧ ∀ es, P ds.length es → R es)
    (hs : ∀ x, foldedSetIterable iter X.env x = pure x := by intro _; rfl) : KN X w0 (.ListComp elt [⟨tg, iter, ifs, 0⟩] scope pos) ss R :=
  PE.imp (pe_lc hc hN h ok hg (pts_S (w0 := w0)) (te := anBE X w0 scope elt) (fun s H C cl fp => ⟨fun pins s' σ H' Q I ⟨_, _, hh, q⟩ => (hh s H C cl fp).run pins s' σ H' Q I q⟩) hs) (lcK hT)
/-- a name is set to a comprehension on its line -/
theorem ks_setLc (j : Nat) {x : Str} {px spos : Pos} {elt iter : Expr} {ifs : List Expr} {scope : Scope} {own : List (Str × Nat)} {g : TG} {T : PyData → SS → (SS → Prop) → Prop} {N : AN} (hc : X.calm = true) (hN : X.N.Nodup) (hy : X.N[j]? = some x) (hyl : X.env.scope.names.lookup x = some .local) (ok : BlkOk X.N X.env.scope scope own)
    (hT : TgOk X.K w0 g T (own.map (·.2)))
    (hg : ∀ (s : Shared) (H : Hp) (C : Addr) (cl : List (Str × Addr)) (fp : List Addr), PG (X.blk s H scope (compEnvC scope cl C X.env) fp) tg g)
    (h : KI X w0 tg iter ss fun ds => ds.length ≤ 50000 ∧ ∃ P : Nat → List PyData → Prop, P 0 [] ∧
      (∀ i d acc, ds[i]? = some d → P i acc → T d (wipeS ss (own.map (·.2))) fun ss' => testS X w0 scope ifs ss' (BE X w0 scope elt ss' fun e => onDat e fun e => P (i + 1) (acc ++ [e])) (P (i + 1) acc)) ∧ ∀ es, P ds.length es → N.nx (ss.set j (some (.buf es))))
    (hsw : swapsWith (.ListComp elt [⟨tg, iter, ifs, 0⟩] scope pos) (some (.Name x px)) spos.line X.env = pure true := by rfl) (hs : ∀ x, foldedSetIterable iter X.env x = pure x := by intro _; rfl) : KS X w0 (.Assign [.Name x px] (.ListComp elt [⟨tg, iter, ifs, 0⟩] scope pos) spos) ss N :=
  PS.imp (ps_setLc hc hN hy hyl hsw h ok hg (pts_S (w0 := w0)) (te := anBE X w0 scope elt) (fun s H C cl fp => ⟨fun pins s' σ H' Q I ⟨_, _, hh, q⟩ => (hh s H C cl fp).run pins s' σ H' Q I q⟩) hs) fun D σ H ⟨w, ew, hsl, d⟩ =>
    lcK (R := fun es => N.nx (ss.set j (some (.buf es)))) hT σ H _ ⟨w, ew, hsl, fun p vs ds w1 l1 hn h1 h2 hd hk => d.nx _ _ w1 l1.g (hsl.setN j hn l1 h1 h2 hd) hk⟩
/-! ### for -/
theorem ks_for {iter : Expr} {body : List Stmt} {g : TG} {T : PyData → SS → (SS → Prop) → Prop} {vs : List Nat} {N : AN} (hp : PassesOwn (model X.prog X.w) X.A X.env X.xe) (hc : X.calm = true) (hT : TgOk X.K w0 g T vs) (hg : PG X tg g)
    (h : KI X w0 tg iter ss fun ds => ∃ I : Nat → SS → Prop, I 0 ss ∧ (∀ i d ss', ds[i]? = some d → I i ss' → T d ss' fun ss2 => KSs X w0 body ss2 { nx := I (i + 1), rt := N.rt, bk := N.nx, ct := I (i + 1) }) ∧ ∀ ss', I ds.length ss' → N.nx ss')
    (hs : ∀ x, foldedSetIterable iter X.env x = pure x := by intro _; rfl) : KS X w0 (.For tg iter body [] pos) ss N := by
  refine PS.imp (ps_for hp hc h hg (pss_an (w0 := w0)) hs) fun D σ H ⟨w, ew, hsl, d⟩ => ⟨w, ew, hsl, fun J ds w1 l1 walk hk => ?_⟩
  obtain ⟨I, i0, it, ie⟩ := hk
  refine ⟨fun i m σ' H' => m = ds.length - i ∧ i ≤ ds.length ∧ ∃ (ss' : SS) (w' : Wl), w'.h = H' ∧ Sl X.K w0 w' σ' ss' ∧ Ex w1.g w'.g ∧ I i ss', ⟨ds.length, by simp, Nat.zero_le _, ss, w1, rfl, hsl.mono l1, Ex.refl _, i0⟩, ?_⟩
  rintro i m σ' H' ⟨rfl, hi, ss', w', rfl, hs', eg, hI⟩
  by_cases hlt : i < ds.length
  · refine .inr ?_
    have hget : ds[i]? = some ds[i] := by simp [hlt]
    obtain ⟨hgo, hy⟩ := (walk w' eg i).1 _ hget
    refine ⟨hgo, fun σ2 H2 => ∃ (ss' : SS) (w' : Wl), w'.h = H2 ∧ Sl X.K w0 w' σ2 ss' ∧ Ex w1.g w'.g ∧ I (i + 1) ss', fun σ2 H2 iv => ⟨ds.length - (i + 1), by omega, rfl, hlt, iv⟩, fun x H2 y => ?_⟩
    obtain ⟨w2, rfl, l2, hx⟩ := hy x H2 y
    refine hT.go x ds[i] w2 _ _ _ _ hx (hs'.mono l2) (it i _ ss' hget hI) fun σ2 ss2 hs2 _ k2 => ?_
    have e2 : Ex w1.g w2.g := eg.trans l2.g
    refine ⟨ss2, _, k2, w2, rfl, hs2, ⟨fun σ3 ss3 w3 x3 s3 n3 => ⟨ss3, w3, rfl, s3, e2.trans x3, n3⟩, fun v a w3 x3 l3 a3 r3 => d.rt v a w3 (l1.g.trans (e2.trans x3)) l3 a3 r3, fun σ3 ss3 w3 x3 s3 n3 => d.nx σ3 ss3 w3 (l1.g.trans (e2.trans x3)) s3 n3, fun σ3 ss3 w3 x3 s3 n3 => ⟨ss3, w3, rfl, s3, e2.trans x3, n3⟩⟩⟩
  · have e : i = ds.length := by omega
    subst e
    exact .inl ⟨(walk w' eg ds.length).2 (Nat.le_refl _), d.nx σ' ss' w' (l1.g.trans eg) hs' (ie ss' hI)⟩
end
end Kp


namespace Kp
open PySem PySem.Spec PyProof.Rows L2
/-! ### a def of the text, by what it does to data -/
theorem AvA.length {K : PySem.W.Frag} {w : Wl} : ∀ {vs : List V} {as : List AV}, AvA K w vs as → vs.length = as.length
  | _, _, .nil => rfl
  | _, _, .cons _ t => congrArg (· + 1) (AvA.length t)
theorem AvA.get {K : PySem.W.Frag} {w : Wl} : ∀ {vs : List V} {as : List AV} {i : Nat} {a : AV}, AvA K w vs as → as[i]? = some a → ∃ v, vs[i]? = some v ∧ Av K w v a
  | _, _, _, _, .nil, q => by simp at q
  | _, _, 0, _, .cons x _, e => ⟨_, rfl, by rw [← Option.some.inj (show some _ = some _ from e)]; exact x⟩
  | _, _, i + 1, _, .cons _ t, e => AvA.get (i := i) t (by simpa using e)
/-- the state at the entry -/
def ss0 (n : Nat) (as : List AV) : SS := as.map some ++ List.replicate (n - as.length) none
/-- the world without its store -/
def Wl.bare (w : Wl) : Wl := ⟨w.g, w.h, w.sub, []⟩
theorem Le.bare (w : Wl) : Le w.bare w := ⟨Ex.refl _, Ex.refl _, fun _ _ h => h⟩
theorem Le.unbare {w w' : Wl} (l : Le w.bare w') : Le w w' := ⟨l.g, l.h, l.hid⟩
theorem SOk.bare {K : PySem.W.Frag} {w w' : Wl} : SOk K w.bare w' := ⟨fun p b as m => absurd m List.not_mem_nil, List.nodup_nil⟩
theorem Sl.start {K : PySem.W.Frag} {w : Wl} {N : List Str} {vs : List V} {as : List AV} (h : AvA K w vs as) (hp : as.all AV.plain = true) : Sl K w.bare w (L2.start N vs) (ss0 N.length as) := by
  have key : ∀ (i : Nat) (a : AV), (ss0 N.length as)[i]? = some (some a) → as[i]? = some a := fun i a e => by
    unfold ss0 at e
    by_cases hi : i < as.length
    · rw [List.getElem?_append_left (by simpa using hi), List.getElem?_map] at e
      cases q : as[i]? with
      | none => (rw [q] at e; cases e)
      | some b => rw [q] at e; cases e; rfl
    · rw [List.getElem?_append_right (by simpa using hi), List.getElem?_replicate] at e
      split at e <;> cases e
  have nb : ∀ (i : Nat) (ds : List PyData), (ss0 N.length as)[i]? ≠ some (some (AV.buf ds)) := fun i ds e => by
    have hm := List.mem_of_getElem? (key i _ e)
    have := List.all_eq_true.mp hp _ hm
    cases this
  refine ⟨Le.bare w, ?_, fun i a e => ?_, fun i j ds es v _ e => absurd e (nb i ds), fun i ds p e => absurd e (nb i ds), SOk.bare, fun i ds p e => absurd e (nb i ds)⟩
  · unfold L2.start ss0
    rw [List.length_append, List.length_append, List.length_map, List.length_map, List.length_replicate, List.length_replicate, h.length]
  · obtain ⟨v, hv, q⟩ := h.get (key i a e)
    refine ⟨v, ?_, q⟩
    unfold L2.start
    rw [List.getElem?_append_left (by rw [List.length_map]; exact (List.getElem?_eq_some_iff.mp hv).1), List.getElem?_map, hv]
    rfl
section
variable {base : Heap} {K : PySem.W.Frag} {w : World} {P : Program} {mg : Str → Option Value}
/-- the body's context -/
abbrev cxB (P : Program) (w : World) (K : PySem.W.Frag) (mg : Str → Option Value) (base : Heap) (N : List Str) (qual : Str) (scope : Scope) (f : Addr) (cd : Value) (A : Around) (outer : List Env) (s : Shared) (H : Hp) (E : XK) : Cx := (cxOf CX0 P w K mg base N qual scope f cd A outer s H E).nox
theorem okA {x qual : Str} {st : Stmt} {f : Addr} {fd : FuncData} {N ps : List Str} {k : Nat} {C : List AV → (AV → Prop) → Prop} (F : Fun K x qual st f fd) (S : FnScope N ps (defScope st)) (len : ∀ as R, C as R → as.length = ps.length)
    (hbody : ∀ (cdv : Value) (A : Around) (outer : List Env) (s : Shared) (H : Hp) (E : XK) (w0 : Wl) (as : List AV) (R : AV → Prop), Room k (A.deeper (envOfC qual (defScope st) s.heap.objs.size f cdv)) → C as R →
      KSs (cxB P w K mg base N qual (defScope st) f cdv A outer s H E) w0 (defBody st) (ss0 N.length as) { nx := fun _ => R (.dat .none), rt := R }) : FnOk P w K mg base CX0 (k + 1) f fd ps (spA K C) := by
  refine F.ok S (fun vs H Q E ⟨w0, as, R, e, hv, hc, q⟩ => by rw [hv.length]; exact len as R hc.2) fun cdv A outer s H vs Q E hr ⟨w0, as, R, e, hv, hc, q⟩ => ?_
  refine ⟨_, hbody cdv A outer s H E w0.bare as R hr hc.2, w0, e, Sl.start hv hc.1, ⟨fun σ' ss' w' _ hs hk => q .non (.dat .none) w' hs.le.unbare .non hk, fun v a w' _ hl ha hr => q v a w' hl.unbare ha hr, fun _ _ _ _ _ h => h.elim, fun _ _ _ _ _ h => h.elim⟩⟩
end
/-! ### append -/
section
variable {X : Cx} {w0 : Wl} {ss : SS}
theorem ks_app (i : Nat) {x : Str} {e : Expr} {p apos cpos pos : Pos} {ds : List PyData} {N : AN} (hN : X.N[i]? = some x) (hi : ss[i]? = some (some (.buf ds))) (hz : ds.length < 100000)
    (h : KE X w0 e ss fun a => onDat a fun d => N.nx (ss.set i (some (.buf (ds ++ [d])))))
    (hv : Vis X.env.scope x := by first | exact Or.inl rfl | exact Or.inr (Or.inl rfl) | exact Or.inr (Or.inr rfl)) (hd : (x == ("__debug__" : Str)) = false := by decide) (hcd : (x == ("__classdict__" : Str)) = false := by decide)
    (hbase : attributeBase (.Name x p) "append" X.env (eval (.Name x p) X.env) = eval (.Name x p) X.env := by rfl)
    (hfew : ((backTo cpos (starEach [e] X.env)).all (fun x => !x.1) && (backToKw cpos (keywordEach [] X.env)).all (fun x => x.1.isSome) && decide (([e] : List Expr).length + ([] : List Keyword).length + (if ([] : List Keyword).isEmpty then 0 else 1) < 30)) = true := by rfl)
    (hline : (apos.endLine == cpos.line) = true := by rfl) (hs : starEach [e] X.env = (false, eval e X.env) :: starEach [] X.env := by rfl) (hplain : (backTo cpos (starEach [] X.env)).any (·.1) = false := by rfl)
    (hsw : swapsWith (.Call (.Attribute (.Name x p) "append" apos) [e] [] cpos) none pos.line X.env = pure false := by rfl) : KS X w0 (.Expr (.Call (.Attribute (.Name x p) "append" apos) [e] [] cpos) pos) ss N := by
  refine PS.imp (ps_expr (pe_bm PySem.F.plainAttrs_list PySem.F.slot_list_append PySem.F.type_list_append mt_append (pe_var hN hv hd hcd) (pa_cons h pa_nil hs) hbase hfew hline hs hplain) hsw) fun D σ H ⟨w, ew, hsl, d⟩ => ?_
  subst ew
  obtain ⟨v, e1, q, us, rfl, h1, h2, h3⟩ := hsl.at_ i _ hi
  refine ⟨_, e1, .inl ⟨rfl, _, .inl (.inl h1)⟩, w, rfl, hsl, fun u a w1 l1 hu ha => ?_⟩
  obtain ⟨dd, rfl, hk⟩ := ha.of
  have g1 : w1.h q = some (.lst us) := l1.h _ _ h1
  have g2 : w1.g q = none := l1.hid q (by rw [h1]; simp) h2
  have hs1 := hsl.mono l1
  have h0 : w0.h q = none := hsl.fr i ds q hi e1
  have hdd := (h3.mono l1.g).append (.cons hu .nil)
  have hiL : i < ss.length := (List.getElem?_eq_some_iff.mp hi).1
  refine ⟨q, us, u, rfl, rfl, g1, Nat.lt_of_lt_of_le (by rw [h3.length]; exact hz) (by decide), ?_⟩
  refine d.nx σ _ (w1.own q (.lst (us ++ [u])) g2) l1.g ⟨⟨hs1.le.g, fun b o eb => ?_, hs1.le.hid⟩, by rw [List.length_set]; exact hs1.len, fun j b eb => ?_, fun j k es fs z hjk b1 b2 b3 => ?_, fun j es b b1 b2 => ?_, hs1.so.away (hs1.sd i ds q hi e1) (Ex.refl _) (fun b hb => upd_ne hb) (fun b _ => rfl), fun j es b b1 b2 => ?_⟩ hk
  · show upd w1.h q _ b = some o
    rw [upd_ne (ne_of_none eb h0)]
    exact hs1.le.h b o eb
  · by_cases hj : i = j
    · subst hj
      rw [List.getElem?_set_self hiL] at eb
      cases eb
      exact ⟨_, e1, q, us ++ [u], rfl, upd_same, g2, hdd⟩
    · rw [List.getElem?_set_ne hj] at eb
      obtain ⟨z, b1, b2⟩ := hs1.at_ j b eb
      refine ⟨z, b1, ?_⟩
      cases b with
      | dat _ => exact b2
      | pool => exact b2
      | scr _ => exact b2
      | err _ _ => exact b2
      | at_ _ => exact b2
      | reg _ => exact b2
      | ins _ _ => exact b2
      | nmd _ => exact b2
      | buf es =>
        obtain ⟨r, zs, rfl, c1, c2, c3⟩ := b2
        refine ⟨r, zs, rfl, ?_, c2, c3⟩
        have z : r ≠ q := fun z => by
          subst z
          exact hs1.ap i j ds es _ hj hi eb e1 b1
        show upd w1.h q _ r = _
        rw [upd_ne z]
        exact c1
  · have tr : ∀ {m : Nat} {es : List PyData}, (ss.set i (some (AV.buf (ds ++ [dd]))))[m]? = some (some (AV.buf es)) → ∃ es', ss[m]? = some (some (AV.buf es')) := fun {m es} b => by
      by_cases hm : i = m
      · subst hm
        exact ⟨ds, hi⟩
      · rw [List.getElem?_set_ne hm] at b
        exact ⟨es, b⟩
    obtain ⟨e1', c1⟩ := tr b1
    obtain ⟨e2', c2⟩ := tr b2
    exact hs1.ap j k e1' e2' z hjk c1 c2 b3
  · have tr : ∃ es', ss[j]? = some (some (AV.buf es')) := by
      by_cases hm : i = j
      · subst hm
        exact ⟨ds, hi⟩
      · rw [List.getElem?_set_ne hm] at b1
        exact ⟨es, b1⟩
    obtain ⟨es', c⟩ := tr
    exact hs1.fr j es' b c b2
  · have tr : ∃ es', ss[j]? = some (some (AV.buf es')) := by
      by_cases hm : i = j
      · subst hm
        exact ⟨ds, hi⟩
      · rw [List.getElem?_set_ne hm] at b1
        exact ⟨es, b1⟩
    obtain ⟨es', c⟩ := tr
    exact hs1.sd j es' b c b2
end
/-! ### repr -/
section
variable {X : Cx} {s : Shared} {H : Hp} {σ : L2.St} {pins : List (Addr × Obj)}
mutual
theorem Dd.reads (I : Inv X pins σ H s) : ∀ (d : PyData) (v : V) (u : Value), Dd X.K H v d → RelV v u → ∃ as, Reads s.heap u d as ∧ ∀ b ∈ as, H b ≠ none
  | .none, _, _, h, r => by
    cases h
    cases r
    exact ⟨_, .none, fun b hb => nomatch hb⟩
  | .bool b, _, _, h, r => by
    cases h
    cases r
    exact ⟨_, .bool b, fun b hb => nomatch hb⟩
  | .int i, _, _, h, r => by
    cases h
    obtain ⟨t, rfl⟩ := r
    exact ⟨_, .int i t, fun b hb => nomatch hb⟩
  | .str x, _, _, h, r => by
    cases h
    obtain ⟨t, rfl⟩ := r
    exact ⟨_, .str x t, fun b hb => nomatch hb⟩
  | .list ds, _, _, h, r => by
    cases h with
    | lst hs ha =>
      cases r
      obtain ⟨_, its, n, rv, e⟩ := (show ObjOk X.prog X.w H s.heap _ (.lst _) from I.hok _ _ hs)
      obtain ⟨as, hr, hn⟩ := DdA.reads I ds _ its ha rv
      refine ⟨_, .list e rfl rfl hr, fun b hb => ?_⟩
      rcases List.mem_cons.mp hb with q | q
      · subst q
        rw [hs]
        simp
      · exact hn b q
  | .tuple ds, _, _, h, r => by
    cases h with
    | tup hs ha =>
      cases r
      obtain ⟨its, rv, ⟨ob, ho, hc, m, hd⟩, _⟩ := I.tuple hs
      obtain ⟨as, hr, hn⟩ := DdA.reads I ds _ its ha rv
      exact ⟨_, .tuple ho hc hd hr, hn⟩
  | .dict kvs, _, _, h, r => by
    cases h with
    | @dic a hs =>
      cases r
      obtain ⟨_, _, vs, rel, o, es, ep, e, ex, hd, _, hes, _⟩ := (show ObjOk X.prog X.w H s.heap _ (.dK []) from I.hok _ _ hs)
      cases rel
      have hl : es.toList = [] := by
        have z := hes.length
        simpa using z
      refine ⟨_, .dict (as := []) (bs := []) e ex.1 hd (by rw [hl]; exact .nil) (by rw [hl]; exact .nil), fun b hb => ?_⟩
      have q : b = a := by simpa using hb
      subst q
      rw [hs]
      simp
theorem DdA.reads (I : Inv X pins σ H s) : ∀ (ds : List PyData) (vs : List V) (us : List Value), DdA X.K H vs ds → Vals vs us → ∃ as, ReadsAll s.heap us ds as ∧ ∀ b ∈ as, H b ≠ none
  | [], _, _, h, r => by
    cases h
    cases r
    exact ⟨_, .nil, fun b hb => nomatch hb⟩
  | d :: ds, _, _, h, r => by
    cases h with
    | cons h1 h2 =>
      cases r with
      | cons r1 r2 =>
        obtain ⟨as, q1, n1⟩ := Dd.reads I d _ _ h1 r1
        obtain ⟨bs, q2, n2⟩ := DdA.reads I ds _ _ h2 r2
        exact ⟨_, .cons q1 q2, fun b hb => (List.mem_append.mp hb).elim (n1 b) (n2 b)⟩
end
def rRepr (K : PySem.W.Frag) : List V → Hp → VK → Prop := fun xs H Q => ∃ p d, xs = [.ref p] ∧ Dd K H (.ref p) d ∧ d.showable = true ∧ (d.hasDict = true → ∃ o, K.lookup sysModules = some o) ∧ d.depth ≤ 20 ∧ d.shown.length ≤ sizeLine ∧ Q (.str d.shown) H
theorem call_repr (hg : X.A.guards = some []) (hu : X.A.units + 64 < cLine) : CallR X (.builtin "repr") (rRepr X.K) := by
  intro pn s1 σ1 H1 xs us Q I r h
  obtain ⟨p, d, rfl, hd, h1, h2, h3, h4, q⟩ := h
  obtain ⟨v1, rfl, ru⟩ := vals1 r
  cases ru
  obtain ⟨as, hr, hn⟩ := Dd.reads I d (.ref p) (.ref p) hd rfl
  refine repr_of_reads' hr h1 (fun hx hm => ?_) hg (by omega) (fun _ _ e => e) (fun h' u tk hk => ⟨.str d.shown, H1, I.kept hk, ⟨_, rfl⟩, q⟩) h4
  obtain ⟨o, ho⟩ := h2 hx
  exact hn _ hm (I.bs _ o (I.ok.mod.kin _ o ho)).2
abbrev reprS (hd : Prop) : List AV → (AV → Prop) → Prop
  | [.dat (.list ds)], R => (PyData.list ds).showable = true ∧ ((PyData.list ds).hasDict = true → hd) ∧ (PyData.list ds).depth ≤ 20 ∧ (PyData.list ds).shown.length ≤ 16777216 ∧ R (.dat (.str (PyData.list ds).shown))
  | [.dat (.tuple ds)], R => (PyData.tuple ds).showable = true ∧ ((PyData.tuple ds).hasDict = true → hd) ∧ (PyData.tuple ds).depth ≤ 20 ∧ (PyData.tuple ds).shown.length ≤ 16777216 ∧ R (.dat (.str (PyData.tuple ds).shown))
  | _, _ => False
theorem dl_repr (hg : X.A.guards = some []) (hu : X.A.units + 64 < cLine) : DCl X (.builtin "repr") (reprS (∃ o, X.K.lookup sysModules = some o)) := ⟨_, call_repr hg hu, fun xs R hy vs w Q av q => by
  unfold reprS at hy
  split at hy
  · obtain ⟨v, rfl, hv⟩ := av.one
    obtain ⟨h1, h2, h3, h4, hr⟩ := hy
    cases hv with
    | lst a1 d1 => exact ⟨_, _, rfl, Dd.mono w.sub (.lst a1 d1), h1, h2, h3, by rw [sizeLine_eq]; exact h4, go q (.str _) hr⟩
  · obtain ⟨v, rfl, hv⟩ := av.one
    obtain ⟨h1, h2, h3, h4, hr⟩ := hy
    cases hv with
    | tup a1 d1 => exact ⟨_, _, rfl, Dd.mono w.sub (.tup a1 d1), h1, h2, h3, by rw [sizeLine_eq]; exact h4, go q (.str _) hr⟩
  · exact hy.elim⟩
end
end Kp


namespace Kp
open PySem PySem.Spec PyProof.Rows L2
/-! ### defs that repr: nothing is being shown around them -/
/-- a def's promise where no repr runs around -/
structure FnG (P : Program) (w : World) (K : PySem.W.Frag) (mg : Str → Option Value) (base : Heap) (k : Nat) (f : Addr) (fd : FuncData) (ps : List Str) (sp : Sp) : Prop where
  len : ∀ xs H Q E, sp xs H Q E → xs.length = ps.length
  run : ∀ (A : Around) (outer : List Env) (s : Shared) (H : Hp) (args : Args) (us : List Value) (vs : List V) (Q : VK) (E : XK), A.guards = some [] → Room k A → Env0 P w K mg base A outer s H → BindsTo s fd args (ps.zip us) → Vals vs us → sp vs H Q E →
    codeAny (model P w) A (.call (.ref f) args) (CR CX0 outer P w H s Q E) s
section
variable {base : Heap} {K : PySem.W.Frag} {w : World} {P : Program} {mg : Str → Option Value}
theorem okG {x qual : Str} {st : Stmt} {f : Addr} {fd : FuncData} {N ps : List Str} {k : Nat} {sp : Sp} (F : Fun K x qual st f fd) (S : FnScope N ps (defScope st)) (len : ∀ vs H Q E, sp vs H Q E → vs.length = ps.length)
    (hbody : ∀ (cdv : Value) (A : Around) (outer : List Env) (s : Shared) (H : Hp) (vs : List V) (Q : VK) (E : XK), A.guards = some [] → Room k (A.deeper (envOfC qual (defScope st) s.heap.objs.size f cdv)) → sp vs H Q E →
      ∃ t, PSs (cxB P w K mg base N qual (defScope st) f cdv A outer s H E) (defBody st) t ∧ t { nx := fun _ H' => Q .non H', rt := Q } (start N vs) H) : FnG P w K mg base (k + 1) f fd ps sp := by
  obtain ⟨_, _, _, _, _, _, cdv, _, _, rfl, lk, hcd⟩ := F.ex
  refine ⟨len, ?_⟩
  intro A outer s H args us vs Q E hg hr e0 hb rv hsp
  have hlen := len _ _ _ _ hsp
  have kin : K.In s.heap := e0.mod.kin.keeps fun b o q => (e0.bs b o q).1
  have nolim : s.heap.NoLimit := e0.mod.nolimit.keeps fun b o q => (e0.bs b o q).1
  have kinds : ∀ y ∈ ps.zip us, (defScope st).names.lookup y.1 = some .local ∨ ((defScope st).names.lookup y.1 = some .cell ∧ ((cellsFrom (s.heap.objs.size + 1) (defScope st).names []).lookup y.1).isSome = true) := by
    rintro ⟨n, v⟩ hy
    exact (S.par n (List.of_mem_zip hy).1).imp id fun q => ⟨q, PySem.W.cellsFrom_some _ _ _ (.inl q)⟩
  refine codeAny_call_function hr.depth (kin _ _ lk) rfl S.co S.gen rfl (PySem.W.codeRec_of kin hcd) (hb _ _ _ _ (wpAny_newFunctionEnv_cells S.kind kinds fun env he s1 x => ?_))
  subst he
  refine ⟨nolim.keeps x.toInCall.keep, codeAny_func ?_⟩
  obtain ⟨t, ht, hq⟩ := hbody cdv A outer s H vs Q E hg (hr.deeper _) hsp
  have I0 := inv_start (CX := CX0) (E := E) S hr.hd e0 hlen rv x
  refine wpAny_mono (ht.nox.run [] s1 (start N vs) H _ I0 hq) (fun fl s' z => ?_) fun _ _ z => z
  have back : ∀ {σ' : L2.St} {H' : Hp} {v : V} {u : Value}, Inv (cxOf CX0 P w K mg base N qual (defScope st) f cdv A outer s H E) [] σ' H' s' → RelV v u → Q v H' → CE outer P w H s Q u s' := fun J ru q => ⟨_, _, J.os, J.bare, J.base, J.hok, ru, q⟩
  match fl, z with
  | .ret _, ⟨_, _, _, J, ru, q⟩ => exact back J ru q
  | .next, ⟨_, _, J, q⟩ => exact back (v := V.non) (u := Value.none) J rfl q
  | .brk, ⟨_, _, _, q⟩ => exact q.elim
  | .cont, ⟨_, _, _, q⟩ => exact q.elim
/-- the same over data -/
theorem okGA {x qual : Str} {st : Stmt} {f : Addr} {fd : FuncData} {N ps : List Str} {k : Nat} {C : List AV → (AV → Prop) → Prop} (F : Fun K x qual st f fd) (S : FnScope N ps (defScope st)) (len : ∀ as R, C as R → as.length = ps.length)
    (hbody : ∀ (cdv : Value) (A : Around) (outer : List Env) (s : Shared) (H : Hp) (E : XK) (w0 : Wl) (as : List AV) (R : AV → Prop), A.guards = some [] → Room k (A.deeper (envOfC qual (defScope st) s.heap.objs.size f cdv)) → C as R →
      KSs (cxB P w K mg base N qual (defScope st) f cdv A outer s H E) w0 (defBody st) (ss0 N.length as) { nx := fun _ => R (.dat .none), rt := R }) : FnG P w K mg base (k + 1) f fd ps (spA K C) := by
  refine okG F S (fun vs H Q E ⟨w0, as, R, e, hv, hc, q⟩ => by rw [hv.length]; exact len as R hc.2) fun cdv A outer s H vs Q E hg hr ⟨w0, as, R, e, hv, hc, q⟩ => ?_
  refine ⟨_, hbody cdv A outer s H E w0.bare as R hg hr hc.2, w0, e, Sl.start hv hc.1, ⟨fun σ' ss' w' _ hs hk => q .non (.dat .none) w' hs.le.unbare .non hk, fun v a w' _ hl ha hr => q v a w' hl.unbare ha hr, fun _ _ _ _ _ h => h.elim, fun _ _ _ _ _ h => h.elim⟩⟩
end
section
variable {X : Cx} {w0 : Wl} {ss : SS}
theorem k_callG {C : List AV → (AV → Prop) → Prop} {k : Nat} {f : Addr} {fd : FuncData} {ps : List Str} {x : Str} {p pos : Pos} {e : Expr} {es : List Expr} {R : AV → Prop} (F : FnG X.prog X.w X.K X.mg X.base k f fd ps (spA X.K C)) (hgd : X.A.guards = some []) (hr : Room k X.A) (hg : Gl X x) (hm : X.mg x = some (.ref f)) (hk : PySem.W.keepIn X.K (.ref f) = true) (hb : Binds X.K fd ps [])
    (h : KA X w0 (e :: es) ss fun as => as.all AV.plain = true ∧ C as R) (hdb : (x == ("__debug__" : Str)) = false := by decide) (he : starEach (e :: es) X.env = (false, eval e X.env) :: starEach es X.env := by rfl) (hpl : (backTo pos (starEach es X.env)).any (·.1) = false := by rfl) :
    KE X w0 (.Call (.Name x p) (e :: es) [] pos) ss R := by
  refine ⟨fun pins s σ H Q I hq => wpAny_Call_Name_kw (ld_glob I hg hm ?_ hdb)⟩
  obtain ⟨w, ew, hs, q⟩ := hq
  refine PySem.W.callWith_K (h₀ := X.base) I.ok.mod.kin hk (thn (h.run pos pins s σ H (fun vs H1 => spA X.K C vs H1 Q fun _ _ _ => False) I ⟨w, ew, hs, fun vs as w1 l1 hvs hk => ⟨w1, as, R, rfl, hvs, hk, fun v2 a2 w2 l2 h2 r2 => q v2 a2 w2 (l1.trans l2) h2 r2⟩⟩) fun us s1 ⟨vs, H1, I1, r, q1⟩ => ⟨I1.kIn, ?_⟩) he hpl
  have hl : (us ++ []).length = ps.length := by rw [List.append_nil, ← r.length]; exact F.len _ _ _ _ q1
  have bd := hb s1 us I1.kIn hl
  rw [List.append_nil] at bd
  refine wpAny_call (codeAny_mono (F.run X.A X.stack s1 H1 ⟨us, []⟩ us vs Q (fun _ _ _ => False) hgd hr I1.env0 bd r q1) fun res s' hq => ?_)
  match res, hq with
  | .error _, z => exact z.elim
  | .ok (.ret _), z => exact I1.after z
  | .ok .next, z => exact z.elim
  | .ok .brk, z => exact z.elim
  | .ok .cont, z => exact z.elim
end
/-! ### the law's end, with nothing shown around -/
theorem lawG {P : Program} {w : World} {K : PySem.W.Frag} {mg mb : Str → Option Value} {k : Nat} {fa a : Addr} {fd : FuncData} {x : Str} {sp : Sp} {s0 : Shared} {vs : List Value} {ns : List Int}
    (KX : K.In s0.heap) (hns : s0.heap.Ns mainGlobals mg) (hbn : s0.heap.Ns builtinsNs mb) (hbo : ∀ x : Str, x ≠ "__name__" → mb x = bootBuiltins x) (hli : s0.heap.NoLimit) (hg : s0.gens = #[])
    (hat : s0.heap.get? a = some { cls := .type "list", data := .seq vs.toArray }) (his : IntsAre vs ns) (hle : ns.length ≤ sizeLine) (hr : Room k callerA)
    (F : ∀ base : Heap, K.In base → base.Ns mainGlobals mg → FnG P w K mg base k fa fd [x] sp) (hbind : ∀ (s : Shared) (u : Value), BindsTo s fd ⟨[u], []⟩ [(x, u)])
    (hsp : ∀ H : Hp, Only H → SqL K H a (ns.map V.int) → sp [.ref a] H (fun v _ => v = .bl true) fun _ _ _ => False) :
    codeAny (model P w) callerA (.call (.ref fa) ⟨[.ref a], []⟩) (fun r s' => r = .ok (.ret (.bool true)) ∧ OldK s0.heap s'.heap ∧ s'.os = s0.os ∧ AllBare s'.gens) s0 := by
  have rvs := vals_ints his
  have lenV := his.length
  -- with an abstract heap that tracks the script at most
  have core : ∀ H : Hp, Only H → SqL K H a (ns.map V.int) → HOk P w H s0.heap → (∀ b, H b ≠ none → b = a) → (H a ≠ none → K.lookup a = none) → codeAny (model P w) callerA (.call (.ref fa) ⟨[.ref a], []⟩)
      (fun r s' => r = .ok (.ret (.bool true)) ∧ OldK s0.heap s'.heap ∧ s'.os = s0.os ∧ AllBare s'.gens) s0 := by
    intro H hon hsq hok hal hkn
    have un : ∀ {b : Addr} {o : Obj} {es : Array DictEntry} {ep : Nat}, s0.heap.get? b = some o → o.data = .dict es ep → H b = none := by
      intro b o es ep e d
      cases q : H b with
      | none => rfl
      | some u =>
        have zz : b = a := hal b (by rw [q]; simp)
        rw [zz, hat] at e
        cases e
        exact nomatch (show Data.seq vs.toArray _ = Data.dict es ep from d)
    have nsK : ∀ {b : Addr} {m : Str → Option Value}, s0.heap.Ns b m → (hidT s0.heap H).Ns b m := fun ⟨o, es, ep, e, d, r⟩ => ⟨o, es, ep, hidT_get e (un e d), d, r⟩
    have hKb : K.In (hidT s0.heap H) := fun b o e => hidT_get (KX b o e) (by
      cases q : H b with
      | none => rfl
      | some u =>
        have zz : b = a := hal b (by rw [q]; simp)
        rw [zz, hkn (by rw [← zz, q]; simp)] at e
        cases e)
    have hM : Mod K mg (hidT s0.heap H) := ⟨hKb, nsK hns, ⟨mb, nsK hbn, hbo⟩, hli.elim fun mc zz => ⟨mc, nsK zz.1, zz.2⟩⟩
    have none_in : ∀ b : Addr, b ∉ frs [] := fun b zz => by cases zz
    have e0 : Env0 P w K mg (hidT s0.heap H) callerA [] s0 H := ⟨rfl, hM, fun b o e => of_hidT e, Nat.le_of_eq (hidT_size _ _), trivial, fun b zz => absurd zz (none_in b), hok, .of_eq hg⟩
    have run := (F _ hKb (nsK hns)).run callerA [] s0 H ⟨[.ref a], []⟩ [.ref a] [.ref a] _ _ rfl hr e0 (hbind s0 (.ref a)) (.cons rfl .nil) (hsp H hon hsq)
    refine codeAny_mono run fun res s' h => ?_
    match res, h with
    | .error _, zz => exact zz.elim
    | .ok .next, zz => exact zz.elim
    | .ok .brk, zz => exact zz.elim
    | .ok .cont, zz => exact zz.elim
    | .ok (.ret u), ⟨v, H', os, bare, uu, hok', r', q⟩ =>
      obtain rfl : v = .bl true := q
      obtain rfl : u = Value.bool true := r'
      refine ⟨rfl, OldK.of_keep fun b o e => ?_, os, bare⟩
      rcases hon b with zz | ⟨ob, xs, zz⟩
      · exact uu.keep b o e zz (none_in b) (by simp)
      · have e1 := (hok b _ zz).1
        rw [e] at e1
        cases e1
        exact (hok' b _ (uu.frzs b _ _ zz)).1
  by_cases hk : K.lookup a = none
  · have at_a : (fun b => if b = a then some (HO.frz { cls := .type "list", data := .seq vs.toArray } (.lst (ns.map V.int))) else none : Hp) a = some (.frz { cls := .type "list", data := .seq vs.toArray } (.lst (ns.map V.int))) := if_pos rfl
    refine core (fun b => if b = a then some (.frz { cls := .type "list", data := .seq vs.toArray } (.lst (ns.map V.int))) else none) (fun b => ?_) (.inl (.inr ⟨_, at_a⟩)) (fun b u zz => ?_) (fun b zz => ?_) fun _ => hk
    · by_cases hbn : b = a
      · exact .inr ⟨_, _, if_pos hbn⟩
      · exact .inl (if_neg hbn)
    · by_cases hbn : b = a
      · subst hbn
        have z' := at_a.symm.trans zz
        cases z'
        exact ⟨hat, by rw [List.length_map]; exact hle, vs, _, rvs, hat⟩
      · have z' := (if_neg hbn).symm.trans zz
        cases z'
    · by_cases hbn : b = a
      · exact hbn
      · exact absurd (if_neg hbn) zz
  · obtain ⟨o, ho⟩ := Option.ne_none_iff_exists'.mp hk
    have e := KX a o ho
    rw [hat] at e
    cases e
    refine core (fun _ => none) (fun _ => .inl rfl) (.inr ⟨_, vs.toArray, _, ho, rfl, rfl, rfl, by rw [List.size_toArray, lenV]; exact hle, by simpa using rvs⟩) (fun b u zz => nomatch (show (none : Option HO) = some u from zz)) (fun b zz => absurd rfl zz) fun zz => absurd rfl zz
/-- a law's promise: a list of at most 63 ints in, True out -/
def cLaw : List AV → (AV → Prop) → Prop := fun as R => ∃ ns : List Int, as = [.scr ns] ∧ ns.length ≤ 63 ∧ R (.dat (.bool true))
theorem cLaw_go {K : PySem.W.Frag} {H : Hp} {a : Addr} {ns : List Int} (hl : ns.length ≤ 63) (hS : SqL K H a (ns.map V.int)) : spA K cLaw [.ref a] H (fun v _ => v = .bl true) fun _ _ _ => False :=
  ⟨⟨H, H, Ex.refl H, []⟩, [.scr ns], fun a => a = .dat (.bool true), rfl, .cons ⟨a, rfl, hS⟩ .nil, ⟨rfl, ns, rfl, hl, rfl⟩, fun v b w' _ hv hb => by
    subst hb
    cases hv
    rfl⟩
theorem walkG {l : PySem.W.OpenLaw} {k : Nat} {q : Program} {loose : List Str} {XP : (Str → Option Value) → Heap → Prop} {YP : World → Heap → Prop} {d : DefRec} {K : Params → PySem.W.Frag} {x : Str}
    (hn : l.most = some 63) (hdf : d.params.defaults = []) (hr : Room k callerA) (hY : ∀ (w : World) (h : Heap), YP w h → (K w.params).In h)
    (F : ∀ (w : World) (mg : Str → Option Value) (fa : Addr) (hp : Heap), (K w.params).In hp → hp.Ns mainGlobals mg → mg d.name = some (.ref fa) →
      ∃ fd : FuncData, (∀ (s : Shared) (u : Value), BindsTo s fd ⟨[u], []⟩ [(x, u)]) ∧ ∀ base : Heap, (K w.params).In base → base.Ns mainGlobals mg → FnG l.prog w (K w.params) mg base k fa fd [x] (spA (K w.params) cLaw)) :
    PySem.W.WalkO q loose XP YP l.row.toRowW d [] (fun fn us => PySem.call fn us) := by
  refine Att.attach_call hn hdf ?_
  intro w s₀ s₁ mg mb fa o pm cd doc a vs ns G Y ho hd hcd hmg hobj hints hlen hg
  obtain ⟨fd, hb, hF⟩ := F w mg fa _ (hY w _ Y) G.T.g hmg
  exact lawG (hY w _ Y) G.T.g G.T.b G.T.builtins G.T.nolimit hg hobj hints (Nat.le_trans hlen (by decide)) hr hF hb fun H hO hS => cLaw_go hlen hS
end Kp


namespace Kp
open PySem PySem.Spec PyProof.Rows L2
/-! ### the pool: two ints of which only the bounds are told -/
abbrev Plo (y : Int) : Prop := 0 ≤ y ∧ y < 2147483647
/-- take, by the two ints as they are -/
def spTakeL : Sp := fun vs H Q _ => ∃ (p : Addr) (x y n : Int), vs = [.ref p, .int n] ∧ H p = some (.lst [.int x, .int y]) ∧ Plo y ∧ 0 < n ∧ n < 1073741824 ∧
  ∀ r x' y' : Int, Plo y' → 0 ≤ r → r < n → Q (.int r) (upd H p (.lst [.int x', .int y']))
/-- take: any number below the size -/
def cTake : List AV → (AV → Prop) → Prop := fun as R => ∃ n : Int, as = [.pool, .dat (.int n)] ∧ 0 < n ∧ n < 1073741824 ∧ ∀ r : Int, 0 ≤ r → r < n → R (.dat (.int r))
theorem PL.back {P : Program} {w : World} {H : Hp} {h : Heap} {p : Addr} {x y : Int} (hy : Plo y) (hp : ObjOk P w H h p (.lst [.int x, .int y])) : ObjOk P w H h p (PL p) := by
  obtain ⟨_, its, n, rv, e⟩ := hp
  exact ⟨⟨x, y, hy, its, n, rv, e⟩, ⟨_, e⟩, fun h1 h2 ⟨x1, y1, b1, i1, n1, r1, e1⟩ k => ⟨x1, y1, b1, i1, n1, r1, k _ e1⟩⟩
theorem take_pool {P : Program} {w : World} {K : PySem.W.Frag} {mg : Str → Option Value} {base : Heap} {k : Nat} {f : Addr} {fd : FuncData} {ps : List Str} (F : FnOk P w K mg base CX0 k f fd ps spTakeL) (hps : ps.length = 2) : FnOk P w K mg base CX0 k f fd ps (spA K cTake) := by
  refine ⟨fun vs H Q E ⟨w0, as, R, e, hv, hc, q⟩ => ?_, fun A outer s H args us vs Q E hr e0 hb rv ⟨w0, as, R, eh, hv, ⟨_, n, ea, n0, n1, hR⟩, q⟩ => ?_⟩
  · obtain ⟨_, n, rfl, _⟩ := hc
    rw [hv.length, hps]
    rfl
  · subst ea
    subst eh
    obtain ⟨v, u, rfl, ⟨p, rfl, hp⟩, hu⟩ := hv.two
    cases hu
    have hpH : w0.h p = some (PL p) := w0.sub _ _ hp
    obtain ⟨⟨x, y, hy, its, m, ri, ei⟩, _, _⟩ := (show ObjOk P w w0.h s.heap p (PL p) from e0.hok p _ hpH)
    have ne : ∀ (b : Addr) (o : HO), w0.h b = some o → o ≠ PL p → b ≠ p := fun b o hb ho z => by
      rw [z, hpH] at hb
      exact ho (Option.some.inj hb).symm
    have fr : ∀ b, w0.h b = none → upd w0.h p (.lst [.int x, .int y]) b = none := fun b hb => by
      rw [upd_ne (fun z => by rw [z, hpH] at hb; cases hb)]
      exact hb
    have hokL : HOk P w (upd w0.h p (.lst [.int x, .int y])) s.heap := fun b o hb => by
      by_cases z : b = p
      · subst z
        rw [upd_same] at hb
        cases hb
        exact ⟨by show 2 ≤ sizeLine; decide, its, m, ri, ei⟩
      · rw [upd_ne z] at hb
        exact (e0.hok b o hb).stay (fun _ _ _ q => q) (fun c hc => by rw [upd_ne (ne c _ hc (fun q => nomatch q))]; exact hc) fun c xs hc => by rw [upd_ne (ne c _ hc (fun q => nomatch q))]; exact hc
    have eL : Env0 P w K mg base A outer s (upd w0.h p (.lst [.int x, .int y])) := ⟨e0.frames, e0.mod, fun b o hb => ⟨(e0.bs b o hb).1, fr b (e0.bs b o hb).2⟩, e0.bsz, e0.funs, fun b hb => fr b (e0.frf b hb), hokL, e0.bare⟩
    refine codeAny_mono (F.run A outer s _ args us [.ref p, .int n] (fun v H' => ∃ r x' y' : Int, v = .int r ∧ H' = upd w0.h p (.lst [.int x', .int y']) ∧ Plo y' ∧ 0 ≤ r ∧ r < n) (fun _ _ _ => False) hr eL hb rv
      ⟨p, x, y, n, rfl, upd_same, hy, n0, n1, fun r x' y' b1 b2 b3 => ⟨r, x', y', rfl, by rw [upd_upd], b1, b2, b3⟩⟩) fun res s' h => ?_
    match res, h with
    | .error _, z => exact z.elim
    | .ok .next, z => exact z.elim
    | .ok .brk, z => exact z.elim
    | .ok .cont, z => exact z.elim
    | .ok (.ret u), ⟨v, H', os, bare, un, hok', ru, r, x', y', ev, eH, b1, b2, b3⟩ =>
      subst ev
      subst eH
      refine ⟨.int r, w0.h, os, bare, ⟨fun b o e hb h1 h2 => un.keep b o e (fr b hb) h1 h2, fun b o e hb h1 h2 => un.slot b o e (fr b hb) h1 h2, fun _ _ _ hb _ => hb, un.there, fun _ _ z => z, fun _ _ _ z => z, fun _ ps z => ⟨#[], by rw [z]; simp⟩⟩, fun b o hb => ?_, ru, ?_⟩
      · by_cases z : b = p
        · subst z
          rw [hpH] at hb
          cases hb
          have ok := PL.back b1 (hok' b _ upd_same)
          exact ⟨ok.1, ok.2.1, ok.2.2⟩
        · have hb2 : upd w0.h p (.lst [.int x', .int y']) b = some o := by rw [upd_ne z]; exact hb
          refine (hok' b o hb2).stay (fun _ _ _ q => q) (fun c hc => ?_) fun c xs hc => ?_
          · by_cases zc : c = p
            · rw [zc, upd_same] at hc
              cases hc
            · rw [upd_ne zc] at hc
              exact hc
          · by_cases zc : c = p
            · rw [zc, upd_same] at hc
              cases hc
            · rw [upd_ne zc] at hc
              exact hc
      · exact q (.int r) (.dat (.int r)) w0 (Le.refl w0) (.int r) (hR r b2 b3)
/-- a new list of two ints within their bounds is a pool from here -/
def spPoolL (K : PySem.W.Frag) : Sp := fun vs H Q _ => ∃ (a : Addr) (ns : List Int) (k : Int), vs = [.ref a, .int k] ∧ SqL K H a (ns.map V.int) ∧ ns.length ≤ 63 ∧ 0 ≤ k ∧ k < 1000 ∧ ∀ (p : Addr) (x y : Int) (H' : Hp), H p = none → Plo y → Ex H H' → H' p = some (.lst [.int x, .int y]) → Q (.ref p) H'
def cPool : List AV → (AV → Prop) → Prop := fun as R => ∃ (ns : List Int) (k : Int), as = [.scr ns, .dat (.int k)] ∧ ns.length ≤ 63 ∧ 0 ≤ k ∧ k < 1000 ∧ R .pool
theorem pool_pool {P : Program} {w : World} {K : PySem.W.Frag} {mg : Str → Option Value} {base : Heap} {k : Nat} {f : Addr} {fd : FuncData} {ps : List Str} (F : FnOk P w K mg base CX0 k f fd ps (spPoolL K)) (hps : ps.length = 2) : FnOk P w K mg base CX0 k f fd ps (spA K cPool) := by
  refine ⟨fun vs H Q E ⟨w0, as, R, e, hv, hc, q⟩ => ?_, fun A outer s H args us vs Q E hr e0 hb rv ⟨w0, as, R, eh, hv, ⟨_, ns, kk, ea, hl, k0, k1, hR⟩, q⟩ => ?_⟩
  · obtain ⟨_, ns, kk, rfl, _⟩ := hc
    rw [hv.length, hps]
    rfl
  · subst ea
    subst eh
    obtain ⟨v, u, rfl, ⟨a, rfl, ha⟩, hu⟩ := hv.two
    cases hu
    refine codeAny_mono (F.run A outer s _ args us [.ref a, .int kk] (fun v H' => ∃ (p : Addr) (x y : Int), v = .ref p ∧ w0.h p = none ∧ Plo y ∧ Ex w0.h H' ∧ H' p = some (.lst [.int x, .int y])) (fun _ _ _ => False) hr e0 hb rv
      ⟨a, ns, kk, rfl, ex_l w0.sub ha, hl, k0, k1, fun p x y H' b1 b2 b3 b4 => ⟨p, x, y, rfl, b1, b2, b3, b4⟩⟩) fun res s' h => ?_
    match res, h with
    | .error _, z => exact z.elim
    | .ok .next, z => exact z.elim
    | .ok .brk, z => exact z.elim
    | .ok .cont, z => exact z.elim
    | .ok (.ret u), ⟨v, H', os, bare, un, hok', ru, p, x, y, ev, b1, b2, b3, b4⟩ =>
      subst ev
      have np : ∀ (b : Addr) (o : HO), H' b = some o → o ≠ .lst [.int x, .int y] → b ≠ p := fun b o hb ho z => by
        rw [z, b4] at hb
        exact ho (Option.some.inj hb).symm
      have kp : Ex w0.h (upd H' p (PL p)) := fun b o e => by
        rw [upd_ne (ne_of_none e b1)]
        exact b3 b o e
      have sub : Ex (upd w0.g p (PL p)) (upd H' p (PL p)) := fun b o e => by
        by_cases z : b = p
        · subst z
          rw [upd_same] at e ⊢
          exact e
        · rw [upd_ne z] at e
          exact kp b o (w0.sub b o e)
      have g0 : w0.g p = none := w0.gfree b1
      refine ⟨.ref p, upd H' p (PL p), os, bare, ⟨un.keep, un.slot, fun b o e hb h1 => ?_, un.there, fun b xs z => kp b _ z, fun b o u z => kp b _ z, fun b ps z => ⟨#[], by rw [kp b _ z]; simp⟩⟩, fun b o hb => ?_, ru, ?_⟩
      · have q1 := un.free b o e hb h1
        rw [upd_ne (fun z => by rw [z, b4] at q1; cases q1)]
        exact q1
      · by_cases z : b = p
        · subst z
          rw [upd_same] at hb
          cases hb
          have ok := PL.back b2 (hok' b _ b4)
          exact ⟨ok.1, ok.2.1, ok.2.2⟩
        · rw [upd_ne z] at hb
          exact (hok' b o hb).stay (fun _ _ _ q => q) (fun c hc => by rw [upd_ne (np c _ hc (fun q => nomatch q))]; exact hc) fun c xs hc => by rw [upd_ne (np c _ hc (fun q => nomatch q))]; exact hc
      · have le : Le w0 ⟨upd w0.g p (PL p), upd H' p (PL p), sub, w0.st⟩ := ⟨Ex.new g0, kp, fun b h1 h2 => by
          have z : b ≠ p := fun z => h1 (by rw [z]; exact b1)
          show upd w0.g p (PL p) b = none
          rw [upd_ne z]
          exact h2⟩
        exact q (.ref p) .pool ⟨upd w0.g p (PL p), upd H' p (PL p), sub, w0.st⟩ le ⟨p, rfl, upd_same⟩ hR
end Kp


namespace Kp
open PySem PySem.Spec PyProof.Rows L2
section
variable {X : Cx} {w0 : Wl} {ss : SS} {a b : Expr} {pos : Pos}
theorem kt_chain {op op' : CmpOp} {c : Expr} {R : Bool → Prop} {S S' : AV → AV → (Bool → Prop) → Prop} (hc : DCmp X op S) (hc' : DCmp X op' S') (h : KE X w0 a ss fun x => KE X w0 b ss fun y => S x y fun t => iteP t (KE X w0 c ss fun z => S' y z R) (R false))
    (hm : lastMarks [op, op'] [b, c] = false := by with_unfolding_all rfl) : KT X w0 (.Compare a [op, op'] [b, c] pos) ss R := by
  obtain ⟨r, ho, hk⟩ := hc
  obtain ⟨r', ho', hk'⟩ := hc'
  refine PT.imp (pt_chain ho ho' h (pe_an (w0 := w0) (ss := ss)) (pe_an (w0 := w0) (ss := ss)) hm) fun σ H Q ⟨w, ew, hs, q⟩ => ⟨w, ew, hs, fun v x w1 l1 hv hb => ⟨_, hb, w1, rfl, hs.mono l1, fun v2 y w2 l2 hv2 hS => ?_⟩⟩
  refine hk x y (fun t => onBool t fun t => iteP t (KE X w0 c ss fun z => S' y z R) (R false)) hS v v2 w2 _ (hv.mono l2) hv2 fun v3 t w3 l3 hv3 ht => ?_
  obtain ⟨t, rfl, ht⟩ := ht.of
  cases hv3
  refine ⟨t, rfl, ?_⟩
  cases t
  · exact iteF ⟨false, rfl, q false w3 (l1.trans (l2.trans l3)) ht⟩
  · refine iteT ⟨_, ht, w3, rfl, (hs.mono l1).mono (l2.trans l3), fun v4 z w4 l4 hv4 hS' => ?_⟩
    refine hk' y z (fun t => onBool t R) hS' v2 v4 w4 _ (hv2.mono (l3.trans l4)) hv4 fun v5 a5 w5 l5 hv5 r5 => ?_
    obtain ⟨u, rfl, hu⟩ := r5.of
    cases hv5
    exact ⟨u, rfl, q u w5 (l1.trans (l2.trans (l3.trans (l4.trans l5)))) hu⟩
theorem iteD {c A B : Prop} [h : Decidable c] (h1 : c → A) (h2 : ¬ c → B) : iteP (decide c) A B := by
  by_cases q : c
  · rw [decide_eq_true q]; exact h1 q
  · rw [decide_eq_false q]; exact h2 q
theorem iteN {c A B : Prop} [h : Decidable c] (h1 : ¬ c → A) (h2 : c → B) : iteP (!decide c) A B := by
  by_cases q : c
  · rw [decide_eq_true q]; exact h2 q
  · rw [decide_eq_false q]; exact h1 q
/-- a module's constant -/
theorem k_gl {x : Str} {v : V} {u : Value} {d : PyData} {R : AV → Prop} (hg : Gl X x) (hm : X.mg x = some u) (r : RelV v u) (hd : ∀ H, Dd X.K H v d) (hR : R (.dat d)) (hdb : (x == ("__debug__" : Str)) = false := by decide) : KE X w0 (.Name x pos) ss R :=
  k_c (pe_glob hg hm r hdb) (fun w => hd w.g) hR
end
/-! ### which data are of which built-in kind -/
def isTup : PyData → Bool | .tuple _ => true | _ => false
def isStrD : PyData → Bool | .str _ => true | _ => false
def isIntB : PyData → Bool | .int _ => true | .bool _ => true | _ => false
def isBoolD : PyData → Bool | .bool _ => true | _ => false
def isLst : PyData → Bool | .list _ => true | _ => false
theorem kit_tup : ∀ d : PyData, kitB (tyD d) "tuple" = some (isTup d)
  | .none => (by decide +kernel : kitB "NoneType" "tuple" = some false)
  | .bool _ => (by decide +kernel : kitB "bool" "tuple" = some false)
  | .int _ => (by decide +kernel : kitB "int" "tuple" = some false)
  | .str _ => (by decide +kernel : kitB "str" "tuple" = some false)
  | .list _ => (by decide +kernel : kitB "list" "tuple" = some false)
  | .tuple _ => (by decide +kernel : kitB "tuple" "tuple" = some true)
  | .dict _ => (by decide +kernel : kitB "dict" "tuple" = some false)
theorem kit_str : ∀ d : PyData, kitB (tyD d) "str" = some (isStrD d)
  | .none => (by decide +kernel : kitB "NoneType" "str" = some false)
  | .bool _ => (by decide +kernel : kitB "bool" "str" = some false)
  | .int _ => (by decide +kernel : kitB "int" "str" = some false)
  | .str _ => (by decide +kernel : kitB "str" "str" = some true)
  | .list _ => (by decide +kernel : kitB "list" "str" = some false)
  | .tuple _ => (by decide +kernel : kitB "tuple" "str" = some false)
  | .dict _ => (by decide +kernel : kitB "dict" "str" = some false)
theorem kit_int : ∀ d : PyData, kitB (tyD d) "int" = some (isIntB d)
  | .none => (by decide +kernel : kitB "NoneType" "int" = some false)
  | .bool _ => (by decide +kernel : kitB "bool" "int" = some true)
  | .int _ => (by decide +kernel : kitB "int" "int" = some true)
  | .str _ => (by decide +kernel : kitB "str" "int" = some false)
  | .list _ => (by decide +kernel : kitB "list" "int" = some false)
  | .tuple _ => (by decide +kernel : kitB "tuple" "int" = some false)
  | .dict _ => (by decide +kernel : kitB "dict" "int" = some false)
theorem kit_bool : ∀ d : PyData, kitB (tyD d) "bool" = some (isBoolD d)
  | .none => (by decide +kernel : kitB "NoneType" "bool" = some false)
  | .bool _ => (by decide +kernel : kitB "bool" "bool" = some true)
  | .int _ => (by decide +kernel : kitB "int" "bool" = some false)
  | .str _ => (by decide +kernel : kitB "str" "bool" = some false)
  | .list _ => (by decide +kernel : kitB "list" "bool" = some false)
  | .tuple _ => (by decide +kernel : kitB "tuple" "bool" = some false)
  | .dict _ => (by decide +kernel : kitB "dict" "bool" = some false)
theorem kit_list : ∀ d : PyData, kitB (tyD d) "list" = some (isLst d)
  | .none => (by decide +kernel : kitB "NoneType" "list" = some false)
  | .bool _ => (by decide +kernel : kitB "bool" "list" = some false)
  | .int _ => (by decide +kernel : kitB "int" "list" = some false)
  | .str _ => (by decide +kernel : kitB "str" "list" = some false)
  | .list _ => (by decide +kernel : kitB "list" "list" = some true)
  | .tuple _ => (by decide +kernel : kitB "tuple" "list" = some false)
  | .dict _ => (by decide +kernel : kitB "dict" "list" = some false)
/-! ### a dict of the top, asked by get -/
/-- d.get(k) of a written dict with text keys -/
def tKGet (K : PySem.W.Frag) (w : World) (td ty : TE) : TE := fun σ H Q => td σ H fun x H1 => ∃ a es n, x = .ref a ∧ KDict K w a es n ∧ ty σ H1 fun y H2 => ∃ (z : Str) (o : Option Value) (v : V), y = .str z ∧ PySem.W.nsIn K a z = some o ∧ RelV v (o.getD .none) ∧ Q v H2
section
variable {X : Cx} {w0 : Wl} {ss : SS} {o e : Expr} {apos cpos : Pos} {td ty : TE}
theorem pe_kget (hu : X.A.units + 1 < cLine) (ho : PE X o td) (he : PE X e ty) (m : M1 X o "get" apos e cpos) : PE X (.Call (.Attribute o "get" apos) [e] [] cpos) (tKGet X.K X.w td ty) := by
  refine ⟨fun pins s σ H Q I hq => ?_⟩
  refine wpAny_Call_method m.base m.few m.line PySem.F.plainAttrs_dict PySem.F.slot_dict_get PySem.F.type_dict_get (thn (ho.run pins s σ H _ I hq) fun u s1 ⟨x, H1, I1, rx, a, es, n, ex, D, q1⟩ => ?_)
  subst ex
  obtain rfl : u = .ref a := rx
  refine ⟨kd_type D I1, fun b q => ?_, ?_⟩
  · cases q
    exact ⟨_, I1.kIn _ _ D.at_, rfl⟩
  rw [m.trees]
  refine Calls.callWith_builtin rfl (Calls.evalArgs_plain (Calls.spliced_cons (thn (he.run pins s1 σ H1 _ I1 q1) fun iv s2 ⟨y, H2, I2, ry, z, ov, v, ey, en, rv, q2⟩ => Calls.spliced_nil ?_)))
  subst ey
  obtain ⟨t, rfl⟩ := ry
  have hm := PySem.W.mapOf_K (prog := X.prog) (w := X.w) I2.kIn D.at_ D.lit
  refine call_meetsIn PySem.F.slot_dict_get hm.typeIs PySem.F.entry_dict_get (PySem.F.args_dict_get_2 _ _) (meets_dict_get (strKind X.prog X.w) a (PySem.strKind_is X.prog X.w z t) D.low) ⟨_, hm, ?_⟩
  rw [PySem.W.find_K D.at_ en]
  exact ⟨v, H2, I2.tok _, rv, q2⟩
/-- NAME.get(e) of a dict of the top: V tells what stands by each text -/
theorem k_kget {x : Str} {p : Pos} {d : Addr} {es : Array DictEntry} {n : Nat} {R : AV → Prop} (hu : X.A.units + 1 < cLine) (D : KDict X.K X.w d es n) (hg : Gl X x) (hx : X.mg x = some (.ref d)) (m : M1 X (.Name x p) "get" apos e cpos) (V : Str → PyData)
    (hV : ∀ z, ∃ o v, PySem.W.nsIn X.K d z = some o ∧ RelV v (o.getD .none) ∧ ∀ H, Dd X.K H v (V z)) (h : KE X w0 e ss fun a => onDat a fun y => ∃ z, y = .str z ∧ R (.dat (V z))) (hdb : (x == ("__debug__" : Str)) = false := by decide) : KE X w0 (.Call (.Attribute (.Name x p) "get" apos) [e] [] cpos) ss R :=
  PE.imp (pe_kget hu (pe_glob hg hx (v := .ref d) rfl hdb) h m) fun σ H Q ⟨w, ew, hs, q⟩ => ⟨d, es, n, rfl, D, w, ew, hs, fun v a w1 l1 hv hk => by
    obtain ⟨y, rfl, z, rfl, hr⟩ := hk.of
    cases hv
    obtain ⟨o, v, e1, e2, e3⟩ := hV z
    exact ⟨z, o, v, rfl, e1, e2, q v (.dat (V z)) w1 l1 (e3 w1.g) hr⟩⟩
end
end Kp


namespace Kp
open PySem PySem.Spec PyProof.Rows L2
/-! ### defs by name -/
/-- how a def of the top stands -/
def Fn0 (K : PySem.W.Frag) (mg : Str → Option Value) (x : Str) (st : Stmt) (ps : List Str) : Prop := ∃ (f : Addr) (fd : FuncData), Fun K x x st f fd ∧ mg x = some (.ref f) ∧ Binds K fd ps []
/-- by the name x a def is called that does C -/
def Dn (P : Program) (w : World) (K : PySem.W.Frag) (mg : Str → Option Value) (base : Heap) (x : Str) (k : Nat) (C : List AV → (AV → Prop) → Prop) : Prop := ∃ (f : Addr) (fd : FuncData) (ps : List Str),
  FnOk P w K mg base CX0 k f fd ps (spA K C) ∧ mg x = some (.ref f) ∧ PySem.W.keepIn K (.ref f) = true ∧ Binds K fd ps []
def DnG (P : Program) (w : World) (K : PySem.W.Frag) (mg : Str → Option Value) (base : Heap) (x : Str) (k : Nat) (C : List AV → (AV → Prop) → Prop) : Prop := ∃ (f : Addr) (fd : FuncData) (ps : List Str),
  FnG P w K mg base k f fd ps (spA K C) ∧ mg x = some (.ref f) ∧ PySem.W.keepIn K (.ref f) = true ∧ Binds K fd ps []
section
variable {X : Cx} {w0 : Wl} {ss : SS} {R : AV → Prop}
theorem k_cd {C : List AV → (AV → Prop) → Prop} {j k : Nat} {x : Str} {p pos : Pos} {e : Expr} {es : List Expr} (D : Dn X.prog X.w X.K X.mg X.base x k C) (hr : Room j X.A) (hk : k ≤ j) (hg : Gl X x)
    (h : KA X w0 (e :: es) ss fun as => as.all AV.plain = true ∧ C as R) (hdb : (x == ("__debug__" : Str)) = false := by decide) (he : starEach (e :: es) X.env = (false, eval e X.env) :: starEach es X.env := by rfl) (hpl : (backTo pos (starEach es X.env)).any (·.1) = false := by rfl) :
    KE X w0 (.Call (.Name x p) (e :: es) [] pos) ss R := by
  obtain ⟨f, fd, ps, F, hm, hkp, hb⟩ := D
  exact k_call F (hr.mono hk) hg hm hkp hb h hdb he hpl
theorem k_cg {C : List AV → (AV → Prop) → Prop} {j k : Nat} {x : Str} {p pos : Pos} {e : Expr} {es : List Expr} (D : DnG X.prog X.w X.K X.mg X.base x k C) (hgd : X.A.guards = some []) (hr : Room j X.A) (hk : k ≤ j) (hg : Gl X x)
    (h : KA X w0 (e :: es) ss fun as => as.all AV.plain = true ∧ C as R) (hdb : (x == ("__debug__" : Str)) = false := by decide) (he : starEach (e :: es) X.env = (false, eval e X.env) :: starEach es X.env := by rfl) (hpl : (backTo pos (starEach es X.env)).any (·.1) = false := by rfl) :
    KE X w0 (.Call (.Name x p) (e :: es) [] pos) ss R := by
  obtain ⟨f, fd, ps, F, hm, hkp, hb⟩ := D
  exact k_callG F hgd (hr.mono hk) hg hm hkp hb h hdb he hpl
end
section
variable {base : Heap} {K : PySem.W.Frag} {w : World} {P : Program} {mg : Str → Option Value}
theorem dn {x : Str} {st : Stmt} {N ps : List Str} {k : Nat} {C : List AV → (AV → Prop) → Prop} (F : Fn0 K mg x st ps) (S : FnScope N ps (defScope st)) (len : ∀ as R, C as R → as.length = ps.length)
    (hbody : ∀ (f : Addr) (cdv : Value) (A : Around) (outer : List Env) (s : Shared) (H : Hp) (E : XK) (w0 : Wl) (as : List AV) (R : AV → Prop), Room k (A.deeper (envOfC x (defScope st) s.heap.objs.size f cdv)) → C as R →
      KSs (cxB P w K mg base N x (defScope st) f cdv A outer s H E) w0 (defBody st) (ss0 N.length as) { nx := fun _ => R (.dat .none), rt := R }) : Dn P w K mg base x (k + 1) C := by
  obtain ⟨f, fd, F, hm, hb⟩ := F
  exact ⟨f, fd, ps, okA F S len (hbody f), hm, F.kp, hb⟩
theorem dnG {x : Str} {st : Stmt} {N ps : List Str} {k : Nat} {C : List AV → (AV → Prop) → Prop} (F : Fn0 K mg x st ps) (S : FnScope N ps (defScope st)) (len : ∀ as R, C as R → as.length = ps.length)
    (hbody : ∀ (f : Addr) (cdv : Value) (A : Around) (outer : List Env) (s : Shared) (H : Hp) (E : XK) (w0 : Wl) (as : List AV) (R : AV → Prop), A.guards = some [] → Room k (A.deeper (envOfC x (defScope st) s.heap.objs.size f cdv)) → C as R →
      KSs (cxB P w K mg base N x (defScope st) f cdv A outer s H E) w0 (defBody st) (ss0 N.length as) { nx := fun _ => R (.dat .none), rt := R }) : DnG P w K mg base x (k + 1) C := by
  obtain ⟨f, fd, F, hm, hb⟩ := F
  exact ⟨f, fd, ps, okGA F S len (hbody f), hm, F.kp, hb⟩
end
section
variable {base : Heap} {K : PySem.W.Frag} {w : World} {P : Program} {mg : Str → Option Value}
/-- a def whose body is read by the hand layer itself -/
theorem dnL {x : Str} {st : Stmt} {N ps : List Str} {k : Nat} {sp : Sp} {C : List AV → (AV → Prop) → Prop} (F : Fn0 K mg x st ps) (S : FnScope N ps (defScope st)) (len : ∀ vs H Q E, sp vs H Q E → vs.length = ps.length) (himp : ∀ vs H Q E, spA K C vs H Q E → sp vs H Q E)
    (hbody : ∀ (f : Addr) (cdv : Value) (A : Around) (outer : List Env) (s : Shared) (H : Hp) (vs : List V) (Q : VK) (E : XK), Room k (A.deeper (envOfC x (defScope st) s.heap.objs.size f cdv)) → sp vs H Q E →
      ∃ t, PSs (cxB P w K mg base N x (defScope st) f cdv A outer s H E) (defBody st) t ∧ t { nx := fun _ H' => Q .non H', rt := Q } (start N vs) H) : Dn P w K mg base x (k + 1) C := by
  obtain ⟨f, fd, F, hm, hb⟩ := F
  exact ⟨f, fd, ps, (F.ok S len (hbody f)).imp himp, hm, F.kp, hb⟩
end
/-- a larger heap, nothing new to lean on -/
def Wl.more (w : Wl) (H' : Hp) (e : Ex w.h H') : Wl := ⟨w.g, H', w.sub.trans e, w.st⟩
theorem Le.more {w : Wl} {H' : Hp} (e : Ex w.h H') : Le w (w.more H' e) := ⟨Ex.refl _, e, fun _ _ h => h⟩
section
variable {X : Cx}
/-- == of two texts, of two ints -/
abbrev seqS (x y : AV) (R : Bool → Prop) : Prop := match x, y with
  | .dat (.str i), .dat (.str j) => R (decide (i = j))
  | .dat (.int i), .dat (.int j) => R (decide (i = j))
  | _, _ => False
abbrev sneS (x y : AV) (R : Bool → Prop) : Prop := match x, y with
  | .dat (.str i), .dat (.str j) => R (!decide (i = j))
  | .dat (.int i), .dat (.int j) => R (!decide (i = j))
  | _, _ => False
theorem dV_str (i j : Str) : decide (V.str i = V.str j) = decide (i = j) := by by_cases h : i = j <;> simp [h]
theorem dV_int (i j : Int) : decide (V.int i = V.int j) = decide (i = j) := by by_cases h : i = j <;> simp [h]
theorem dc_seq : DCmp X .Eq seqS := ⟨_, op_eq, fun x y R hy vx vy w Q ax ay q => by
  unfold seqS at hy
  split at hy
  · cases ax
    cases ay
    exact ⟨rfl, by rw [dV_str]; exact go q (.bl _) hy⟩
  · cases ax
    cases ay
    exact ⟨rfl, by rw [dV_int]; exact go q (.bl _) hy⟩
  · exact hy.elim⟩
theorem dc_sne : DCmp X .NotEq sneS := ⟨_, op_ne, fun x y R hy vx vy w Q ax ay q => by
  unfold sneS at hy
  split at hy
  · cases ax
    cases ay
    exact ⟨rfl, by rw [dV_str]; exact go q (.bl _) hy⟩
  · cases ax
    cases ay
    exact ⟨rfl, by rw [dV_int]; exact go q (.bl _) hy⟩
  · exact hy.elim⟩
end
/-- what of the built-ins' names the top leaves alone -/
structure Blt (mg : Str → Option Value) : Prop where
  isi : mg "isinstance" = none
  len : mg "len" = none
  all : mg "all" = none
  tup : mg "tuple" = none
  str : mg "str" = none
  int : mg "int" = none
  bool : mg "bool" = none
  zip : mg "zip" = none
  range : mg "range" = none
  min : mg "min" = none
  max : mg "max" = none
  sorted : mg "sorted" = none
  list : mg "list" = none
  repr : mg "repr" = none
theorem b_isi : bootBuiltins "isinstance" = some (.builtin "isinstance") := by decide +kernel
theorem b_len : bootBuiltins "len" = some (.builtin "len") := by decide +kernel
theorem b_all : bootBuiltins "all" = some (.builtin "all") := by decide +kernel
theorem b_min : bootBuiltins "min" = some (.builtin "min") := by decide +kernel
theorem b_max : bootBuiltins "max" = some (.builtin "max") := by decide +kernel
theorem b_sorted : bootBuiltins "sorted" = some (.builtin "sorted") := by decide +kernel
theorem b_repr : bootBuiltins "repr" = some (.builtin "repr") := by decide +kernel
theorem b_tup : bootBuiltins "tuple" = some (.type "tuple") := by decide +kernel
theorem b_str : bootBuiltins "str" = some (.type "str") := by decide +kernel
theorem b_int : bootBuiltins "int" = some (.type "int") := by decide +kernel
theorem b_bool : bootBuiltins "bool" = some (.type "bool") := by decide +kernel
theorem b_list : bootBuiltins "list" = some (.type "list") := by decide +kernel
/-! ## the mathematics of deeds -/
def okL (d : PyData) : Prop := ∀ z, d = .str z → z.length ≤ 100000 ∧ PyData.strOk z = true
def nameB : PyData → Bool
  | .str z => decide (1 ≤ z.length) && (decide (z.length ≤ 6) && z.cps.toList.all fun c => decide (97 ≤ c) && decide (c ≤ 122))
  | _ => false
def wholeB : PyData → Bool
  | .int _ => true
  | _ => false
def betwB (lo hi : Int) : PyData → Bool
  | .int i => decide (lo ≤ i) && decide (i ≤ hi)
  | _ => false
def inB (ws : List Str) : PyData → Bool
  | .str z => decide (z ∈ ws)
  | _ => false
inductive Kd where
  | name | box | number | many | what | words (ws : List Str)
abbrev kdD : Kd → PyData
  | .name => .str "name"
  | .box => .str "box"
  | .number => .str "number"
  | .many => .str "many"
  | .what => .str "what"
  | .words ws => .tuple (ws.map .str)
def fitsB (bs : List Str) : Kd → PyData → Bool
  | .name, d => nameB d
  | .box, d => inB bs d
  | .number, d => betwB 0 9 d
  | .many, d => betwB 1 8 d
  | .what, d => nameB d || betwB 0 9 d
  | .words ws, d => inB ws d
def cName : List AV → (AV → Prop) → Prop := fun as R => ∃ d, as = [.dat d] ∧ okL d ∧ R (.dat (.bool (nameB d)))
def cWhole : List AV → (AV → Prop) → Prop := fun as R => ∃ d, as = [.dat d] ∧ R (.dat (.bool (wholeB d)))
def cBetw : List AV → (AV → Prop) → Prop := fun as R => ∃ d lo hi, as = [.dat d, .dat (.int lo), .dat (.int hi)] ∧ R (.dat (.bool (betwB lo hi d)))
def cIsOf : List AV → (AV → Prop) → Prop := fun as R => ∃ (bs : List Str) (k : Kd) (d : PyData), as = [.dat (.list (bs.map .str)), .dat (kdD k), .dat d] ∧ okL d ∧ R (.dat (.bool (fitsB bs k d)))
def Wrd (l : List Str) : Kd := .words l
def kindsOf (z : Str) : Option (List Kd) :=
  if z = "read" then some [.name, .box, .words ["plain", "loose", "taking"]] else
  if z = "write" then some [.box, .what, .words ["plain", "loose", "giving"]] else
  if z = "change" then some [.name, .box, .words ["add", "put"], .what, .words ["loose", "giving", "taking", "both"]] else
  if z = "swap" then some [.name, .box, .number, .what, .words ["loose", "giving", "taking", "both"]] else
  if z = "wait" then some [.name, .box, .number, .words ["plain", "loose", "taking"]] else
  if z = "grab" then some [.name, .box, .number, .what, .words ["loose", "giving", "taking", "both"]] else
  if z = "fence" then some [.words ["giving", "taking", "both"]] else
  if z = "skip" then some [.name, .words ["is", "isnt"], .number, .many] else
  if z = "claim" then some [.name, .words ["is", "isnt"], .number] else none
theorem kindsOf_len (z : Str) (ks : List Kd) (h : kindsOf z = some ks) : ks.length ≤ 5 := by
  unfold kindsOf at h
  repeat' (split at h)
  all_goals first | (cases h; decide) | cases h
abbrev kindsV (z : Str) : PyData := match kindsOf z with
  | none => .none
  | some ks => .tuple (ks.map kdD)
def deedB (bs : List Str) : PyData → Bool
  | .tuple (.str z :: rest) => match kindsOf z with
    | none => false
    | some ks => decide (rest.length = ks.length) && (ks.zip rest).all fun p => fitsB bs p.1 p.2
  | _ => false
def okT : PyData → Prop
  | .tuple ds => ds.length ≤ 1000 ∧ (∀ x ∈ ds, okL x) ∧ noD (.tuple ds) = true ∧ SeqAt.shaped (.tuple ds) = true
  | _ => True
def cDeed : List AV → (AV → Prop) → Prop := fun as R => ∃ (bs : List Str) (d : PyData), as = [.dat (.list (bs.map .str)), .dat d] ∧ okT d ∧ R (.dat (.bool (deedB bs d)))
def cIn : List AV → (AV → Prop) → Prop := fun as R => ∃ (ws : List Str) (d : PyData), as = [.dat d, .dat (.list (ws.map .str))] ∧ R (.dat (.bool (inB ws d)))
def cWhat : List AV → (AV → Prop) → Prop := fun as R => ∃ d, as = [.dat d] ∧ okL d ∧ R (.dat (.bool (fitsB [] .what d)))
theorem lt_one (a b : Nat) : decide (([a] : List Nat) < [b]) = decide (a < b) := by
  by_cases h : a < b <;> simp [h, List.cons_lt_cons_iff]
def sortsOf (z : Str) : Option Str :=
  if z = "read" then some "nbr" else if z = "write" then some "bwg" else if z = "change" then some "nbhwc" else if z = "swap" then some "nbfwc" else if z = "wait" then some "nbfr" else if z = "grab" then some "nbfwc" else
  if z = "fence" then some "k" else if z = "skip" then some "nifm" else if z = "claim" then some "nif" else none
def sortsV (z : Str) : PyData := match sortsOf z with
  | none => .none
  | some s => .str s
def strV : Option Str → V
  | none => .non
  | some s => .str s
def sortsL (z : Str) : V := strV (sortsOf z)
def cSorts : List AV → (AV → Prop) → Prop := fun as R => ∃ z : Str, as = [.dat (.str z)] ∧ R (.dat (sortsV z))
theorem sortsL_dd {K : PySem.W.Frag} {H : Hp} (z : Str) : Dd K H (sortsL z) (sortsV z) := by
  unfold sortsL sortsV strV
  cases sortsOf z with
  | none => exact .non
  | some s => exact .str s
/-- which kind a sign stands for -/
def kdOf (c : Nat) : Option Kd :=
  if c = 110 then some .name else if c = 98 then some .box else if c = 102 then some .number else if c = 119 then some .what else if c = 109 then some .many else
  if c = 114 then some (.words ["plain", "loose", "taking"]) else if c = 103 then some (.words ["plain", "loose", "giving"]) else if c = 104 then some (.words ["add", "put"]) else
  if c = 99 then some (.words ["loose", "giving", "taking", "both"]) else if c = 107 then some (.words ["giving", "taking", "both"]) else if c = 105 then some (.words ["is", "isnt"]) else none
def cFits : List AV → (AV → Prop) → Prop := fun as R => ∃ (c : Nat) (k : Kd) (bs : List Str) (d : PyData), as = [.dat (.str ⟨#[c]⟩), .dat (.list (bs.map .str)), .dat d] ∧ kdOf c = some k ∧ okL d ∧ R (.dat (.bool (fitsB bs k d)))
theorem sgn_a (c : Nat) : ((⟨#[c]⟩ : Str).cps.toList < ("a" : Str).cps.toList) ↔ c < 97 := by
  have e : ("a" : Str).cps.toList = [97] := by decide +kernel
  rw [e]
  simp [List.cons_lt_cons_iff]
theorem sgn_z (c : Nat) : (("z" : Str).cps.toList < (⟨#[c]⟩ : Str).cps.toList) ↔ 122 < c := by
  have e : ("z" : Str).cps.toList = [122] := by decide +kernel
  rw [e]
  simp [List.cons_lt_cons_iff]
theorem noDA_strs' : ∀ cs : List Nat, noDA (cs.map fun c => .str ⟨#[c]⟩) = true
  | [] => rfl
  | c :: cs => by
    show (noD (.str ⟨#[c]⟩) && noDA (cs.map fun c => .str ⟨#[c]⟩)) = true
    rw [noDA_strs' cs]
    rfl
theorem lay_signs (p : Nat → Bool) : ∀ cs : List Nat, (∀ c ∈ cs, c < 0x110000) → PyData.canLayAll0 ((cs.filter p).map fun c => .str ⟨#[c]⟩) = true ∧ PyData.depthAll ((cs.filter p).map fun c => .str ⟨#[c]⟩) = 0
  | [], _ => ⟨rfl, rfl⟩
  | c :: cs, h => by
    have ih := lay_signs p cs fun x hx => h x (List.mem_cons_of_mem _ hx)
    have hc := h c List.mem_cons_self
    rw [List.filter_cons]
    by_cases hp : p c = true
    · rw [if_pos hp, List.map_cons]
      have e1 : PyData.canLay0 (.str ⟨#[c]⟩) = true := by
        simp only [PyData.canLay0, PyData.strOk]
        simpa using hc
      simp only [PyData.canLayAll0, PyData.depthAll, e1, ih.1, ih.2, PyData.depth]
      exact ⟨rfl, rfl⟩
    · rw [if_neg hp]
      exact ih
theorem shaped_signs (z : Str) (h : PyData.strOk z = true) (p : Nat → Bool) : SeqAt.shaped (.list ((z.cps.toList.filter p).map fun c => .str ⟨#[c]⟩)) = true := by
  have hc : ∀ c ∈ z.cps.toList, c < 0x110000 := fun c hm => by
    have q := Array.all_eq_true'.mp h c (Array.mem_toList_iff.mp hm)
    simpa using q
  have := lay_signs p z.cps.toList hc
  unfold SeqAt.shaped
  simp only [PyData.canLay0, PyData.depth, this.1, this.2]
  decide
theorem eqv_nil (ds : List PyData) : PyData.eqv (.list ds) (.list []) = ds.isEmpty := by
  cases ds <;> simp [PyData.eqv, PyData.eqvAll]
theorem all_filter (p : Nat → Bool) : ∀ l : List Nat, l.all p = (l.filter fun c => !p c).isEmpty
  | [] => rfl
  | c :: l => by
    rw [List.all_cons, List.filter_cons, all_filter p l]
    cases p c <;> simp
theorem flatDs_strs : ∀ ws : List Str, flatDs (ws.map .str) = some (ws.map V.str)
  | [] => rfl
  | w :: ws => by
    show (match flatD (.str w), flatDs (ws.map .str) with | some v, some vs => some (v :: vs) | _, _ => none) = _
    rw [flatDs_strs ws]
    rfl
theorem inV_strs (z : Str) : ∀ ws : List Str, inV (.str z) (ws.map V.str) = decide (z ∈ ws)
  | [] => by simp [inV]
  | w :: ws => by
    have ih := inV_strs z ws
    unfold inV at ih ⊢
    rw [List.map_cons, List.any_cons, ih]
    have e : eqV (V.str w) (V.str z) = decide (w = z) := by
      unfold eqV
      by_cases h : w = z <;> simp [h]
    rw [e]
    by_cases h : z = w
    · subst h; simp
    · have h' : ¬ w = z := fun q => h q.symm
      simp [h, h']
/-- letters of the sign table -/
def abc : Str := "abcdefghijklmnopqrstuvwxyz"
theorem mem_abc (c : Nat) : decide (c ∈ abc.cps.toList) = (decide (97 ≤ c) && decide (c ≤ 122)) := by
  have e : abc.cps.toList = [97, 98, 99, 100, 101, 102, 103, 104, 105, 106, 107, 108, 109, 110, 111, 112, 113, 114, 115, 116, 117, 118, 119, 120, 121, 122] := by decide +kernel
  rw [e]
  by_cases h1 : 97 ≤ c <;> by_cases h2 : c ≤ 122 <;> simp [h1, h2] <;> omega
end Kp


namespace Kp
open PySem PySem.Spec PyProof.Rows L2
/-! ### repr of lists with empty dicts within: of a dict alone it must be known that it is not the modules' one -/
section
variable {X : Cx} {s : Shared} {H : Hp} {σ : L2.St} {pins : List (Addr × Obj)}
mutual
theorem Dd.reprK (I : Inv X pins σ H s) : ∀ (d : PyData) (v : V) (u : Value), Dd X.K H v d → RelV v u → d.showable = true → d.shown.length ≤ sizeLine → ∃ bs, ReadAtMost s.heap d.depth bs ∧ ReprK X.prog X.w bs s.heap d.depth u d.shown
  | .none, _, _, h, r, hs, hz => by
    cases h
    cases r
    exact ⟨[], (fun _ h => nomatch h), by simp only [PyData.shown]; exact .of_is ReprIs.none _ _ _⟩
  | .bool b, _, _, h, r, hs, hz => by
    cases h
    cases r
    exact ⟨[], (fun _ h => nomatch h), by simp only [PyData.shown]; exact .of_is (ReprIs.bool b) _ _ _⟩
  | .int i, _, _, h, r, hs, hz => by
    cases h
    obtain ⟨t, rfl⟩ := r
    exact ⟨[], (fun _ h => nomatch h), by simp only [PyData.shown]; exact .of_is (ReprIs.int t (by simpa [PyData.showable] using hs)) _ _ _⟩
  | .str x, _, _, h, r, hs, hz => by
    cases h
    obtain ⟨t, rfl⟩ := r
    exact ⟨[], (fun _ h => nomatch h), by simp only [PyData.shown]; exact .of_is (ReprIs.str x t (by simpa only [PyData.shown] using hz)) _ _ _⟩
  | .list ds, v, _, h, r, hs, hz => by
    have hd0 := h
    cases h with
    | @lst a _ _ hp ha =>
      cases r
      obtain ⟨_, its, n, rv, e⟩ := (show ObjOk X.prog X.w H s.heap _ (.lst _) from I.hok _ _ hp)
      have hz' : (listText (PyData.shownAll ds)).length ≤ sizeLine := by simpa only [PyData.shown] using hz
      obtain ⟨bs, hb, hk⟩ := DdA.reprK I ds _ its ha rv (by simpa [PyData.showable] using hs) (fun t ht => Nat.le_trans (listText_mem_le ht) hz')
      obtain ⟨as, rd, _⟩ := Dd.reads I _ _ (.ref a) hd0 rfl
      have hna : a ∉ bs := not_mem_of_deeper rd (by simp only [PyData.depth]; omega) hb
      refine ⟨a :: bs, ReadAtMost.cons rd (by simp only [PyData.depth]; omega) hb, ?_⟩
      simp only [PyData.shown, PyData.depth]
      cases its with
      | nil =>
        cases rv
        cases ha
        simp only [listText_nil, PyData.shownAll]
        exact ReprK.listEmpty e rfl rfl
      | cons x l => exact ReprK.list e rfl rfl hna (by simpa using hk.length_eq) (fun i y e => hk.item i y (by simpa using e))
  | .tuple ds, v, _, h, r, hs, hz => by
    have hd0 := h
    cases h with
    | @tup a _ _ hp ha =>
      cases r
      obtain ⟨its, rv, ⟨o, ho, hc, n, hd⟩, _⟩ := I.tuple hp
      have hz' : (tupleText (PyData.shownAll ds)).length ≤ sizeLine := by simpa only [PyData.shown] using hz
      obtain ⟨bs, hb, hk⟩ := DdA.reprK I ds _ its ha rv (by simpa [PyData.showable] using hs) (fun t ht => Nat.le_trans (tupleText_mem_le ht) hz')
      obtain ⟨as, rd, _⟩ := Dd.reads I _ _ (.ref a) hd0 rfl
      have hna : a ∉ bs := not_mem_of_deeper rd (by simp only [PyData.depth]; omega) hb
      refine ⟨a :: bs, ReadAtMost.cons rd (by simp only [PyData.depth]; omega) hb, ?_⟩
      simp only [PyData.shown, PyData.depth]
      exact ReprK.tuple ho hc hd hna hk
  | .dict kvs, v, _, h, r, hs, hz => by
    have hd0 := h
    cases h with
    | @dic a hp =>
      cases r
      obtain ⟨_, hsys, vs, rel, o, es, ep, e, ex, hd, _, hes, _⟩ := (show ObjOk X.prog X.w H s.heap _ (.dK []) from I.hok _ _ hp)
      cases rel
      have hl : es.toList = [] := by
        have z := hes.length
        simpa using z
      obtain ⟨as, rd, _⟩ := Dd.reads I _ _ (.ref a) hd0 rfl
      refine ⟨[a], ReadAtMost.cons rd (n := 0) (Nat.zero_le _) (fun _ h => nomatch h), ?_⟩
      have q : ReprK X.prog X.w (a :: []) s.heap (PyData.dict []).depth (.ref a) (dictText []) := by
        simp only [PyData.depth]
        exact ReprK.dict e ex.1 hd hsys (fun h => nomatch h) (by rw [hl]; exact .nil)
      have e2 : (PyData.dict []).shown = dictText [] := by simp only [PyData.shown, PyData.shownKv]
      rw [e2]
      exact q
theorem DdA.reprK (I : Inv X pins σ H s) : ∀ (ds : List PyData) (vs : List V) (us : List Value), DdA X.K H vs ds → Vals vs us → PyData.showableAll ds = true → (∀ t ∈ PyData.shownAll ds, t.length ≤ sizeLine) →
    ∃ bs, ReadAtMost s.heap (PyData.depthAll ds) bs ∧ ReprAllK X.prog X.w bs s.heap (PyData.depthAll ds) us (PyData.shownAll ds)
  | [], _, _, h, r, _, _ => by
    cases h
    cases r
    exact ⟨[], (fun _ h => nomatch h), by simp only [PyData.shownAll]; exact .nil⟩
  | d :: ds, _, _, h, r, hs, hz => by
    cases h with
    | cons h1 h2 =>
      cases r with
      | cons r1 r2 =>
        have two : d.showable = true ∧ PyData.showableAll ds = true := by simpa [PyData.showableAll] using hs
        obtain ⟨b1, hb1, k1⟩ := Dd.reprK I d _ _ h1 r1 two.1 (hz _ (by simp only [PyData.shownAll]; exact List.mem_cons_self ..))
        obtain ⟨b2, hb2, k2⟩ := DdA.reprK I ds _ _ h2 r2 two.2 (fun t ht => hz t (by simp only [PyData.shownAll]; exact List.mem_cons_of_mem _ ht))
        refine ⟨b1 ++ b2, ?_, ?_⟩
        · intro b hm
          simp only [PyData.depthAll]
          exact (List.mem_append.mp hm).elim (fun g => let ⟨d1, as1, r1, le1⟩ := hb1 b g; ⟨d1, as1, r1, Nat.le_trans le1 (Nat.le_max_left _ _)⟩)
            fun g => let ⟨d1, as1, r1, le1⟩ := hb2 b g; ⟨d1, as1, r1, Nat.le_trans le1 (Nat.le_max_right _ _)⟩
        · simp only [PyData.shownAll, PyData.depthAll]
          exact .cons ((k1.more fun _ => List.mem_append_left _).level_le (Nat.le_max_left _ _)) (k2.more_le (fun _ => List.mem_append_right _) (Nat.le_max_right _ _))
end
theorem showsBy_dd (I : Inv X pins σ H s) {a : Addr} {ds : List PyData} (hd : Dd X.K H (.ref a) (.list ds)) (hs : (PyData.list ds).showable = true) (hz : (PyData.list ds).shown.length ≤ sizeLine) : ∃ T idr, ShowsBy X.prog X.w s.heap a (.list ds) T idr := by
  have hd0 := hd
  cases hd with
  | lst hp ha =>
    obtain ⟨_, its, n, rv, e⟩ := (show ObjOk X.prog X.w H s.heap _ (.lst _) from I.hok _ _ hp)
    have hz' : (listText (PyData.shownAll ds)).length ≤ sizeLine := by simpa only [PyData.shown] using hz
    obtain ⟨bs, hb, hk⟩ := DdA.reprK I ds _ its ha rv (by simpa [PyData.showable] using hs) (fun t ht => Nat.le_trans (listText_mem_le ht) hz')
    obtain ⟨as, rd, _⟩ := Dd.reads I _ _ (.ref a) hd0 rfl
    have hna : a ∉ bs := not_mem_of_deeper rd (by simp only [PyData.depth]; omega) hb
    refine ⟨"list", "list.__repr__", F.slot_list_repr.toG, F.slot_list_str, F.slot_list_format, fun s hk0 => ⟨_, hk0 _ _ e, rfl⟩, fun A E s Q hg hu hk0 hQ => ?_⟩
    simp only [PyData.depth] at hu
    simp only [PyData.shown] at hQ
    cases its with
    | nil =>
      cases rv
      cases ha
      simp only [listText_nil, PyData.shownAll] at hQ
      exact call_list_repr_empty ⟨_, hk0 _ _ e, rfl⟩ (hk0 _ _ e) rfl (hQ s.heap _ _ fun _ _ e => e)
    | cons x l =>
      exact call_list_reprK e rfl rfl hna (by simpa using hk.length_eq) (fun i y e => hk.item i y (by simpa using e)) hg (fun b _ => Clear.nil b) hu hk0 hQ hz'
def rReprL (K : PySem.W.Frag) : List V → Hp → VK → Prop := fun xs H Q => ∃ p ds, xs = [.ref p] ∧ Dd K H (.ref p) (.list ds) ∧ (PyData.list ds).showable = true ∧ (PyData.list ds).depth ≤ 20 ∧ (PyData.list ds).shown.length ≤ sizeLine ∧ Q (.str (PyData.list ds).shown) H
theorem call_reprL (hg : X.A.guards = some []) (hu : X.A.units + 64 < cLine) : CallR X (.builtin "repr") (rReprL X.K) := by
  intro pn s1 σ1 H1 xs us Q I r h
  obtain ⟨p, ds, rfl, hd, h1, h3, h4, q⟩ := h
  obtain ⟨v1, rfl, ru⟩ := vals1 r
  cases ru
  obtain ⟨T, idr, S⟩ := showsBy_dd I hd h1 h4
  exact call_repr_slot (by omega) (S.typeIs s1 fun _ _ e => e) S.slotRepr (S.call X.A.in1 _ s1 _ hg (by show X.A.units + 1 + (PyData.list ds).depth < cLine; omega) (fun _ _ e => e) fun h' u tk hk => ⟨_, _, rfl, .str (PyData.list ds).shown, H1, I.kept hk, ⟨_, rfl⟩, q⟩)
abbrev reprSL : List AV → (AV → Prop) → Prop
  | [.dat (.list ds)], R => (PyData.list ds).showable = true ∧ (PyData.list ds).depth ≤ 20 ∧ (PyData.list ds).shown.length ≤ 16777216 ∧ R (.dat (.str (PyData.list ds).shown))
  | _, _ => False
theorem dl_reprL (hg : X.A.guards = some []) (hu : X.A.units + 64 < cLine) : DCl X (.builtin "repr") reprSL := ⟨_, call_reprL hg hu, fun xs R hy vs w Q av q => by
  unfold reprSL at hy
  split at hy
  · obtain ⟨v, rfl, hv⟩ := av.one
    obtain ⟨h1, h3, h4, hr⟩ := hy
    cases hv with
    | lst a1 d1 => exact ⟨_, _, rfl, Dd.mono w.sub (.lst a1 d1), h1, h3, by rw [sizeLine_eq]; exact h4, go q (.str _) hr⟩
  · exact hy.elim⟩
end
end Kp


namespace Kp
open PySem PySem.Spec PyProof.Rows L2
/-! ### small data: so deep at most, few and short -/
def sm : Nat → PyData → Bool
  | _, .none => true
  | _, .bool _ => true
  | _, .int i => decide (i.natAbs < 10 ^ 21)
  | _, .str z => decide (z.length ≤ 20) && PyData.strOk z
  | 0, _ => false
  | n + 1, .list ds => decide (ds.length ≤ 20) && ds.all (sm n)
  | n + 1, .tuple ds => decide (ds.length ≤ 20) && ds.all (sm n)
  | _ + 1, .dict kvs => kvs.isEmpty
def smB : Nat → Nat
  | 0 => 300
  | n + 1 => 20 * (smB n + 2) + 4
theorem smB_le (n : Nat) : 300 ≤ smB n := by
  induction n with
  | zero => exact Nat.le_refl _
  | succ n ih => unfold smB; omega
theorem sum_le {l : List Str} {b : Nat} (h : ∀ t ∈ l, t.length ≤ b) : (l.map (·.length)).sum ≤ l.length * b := by
  induction l with
  | nil => exact Nat.zero_le _
  | cons x l ih =>
    have h1 := h x List.mem_cons_self
    have h2 := ih fun t ht => h t (List.mem_cons_of_mem _ ht)
    simp only [List.map_cons, List.sum_cons, List.length_cons, Nat.succ_mul]
    omega
theorem join_le {l : List Str} {b : Nat} (h : ∀ t ∈ l, t.length ≤ b) (hl : l.length ≤ 20) : (Str.join ", " l).length ≤ 20 * (b + 2) := by
  have h1 := StrLaws.join_length_le ", " l
  have h2 := sum_le h
  have h3 : ((", " : String) : Str).length = 2 := rfl
  rw [h3] at h1
  have h4 : l.length * b + l.length * 2 = l.length * (b + 2) := by rw [Nat.mul_add]
  have h5 : l.length * (b + 2) ≤ 20 * (b + 2) := Nat.mul_le_mul_right _ hl
  omega
theorem shownAll_mem : ∀ {ds : List PyData} {t : Str}, t ∈ PyData.shownAll ds → ∃ d ∈ ds, t = d.shown
  | [], t, h => by simp only [PyData.shownAll] at h; cases h
  | d :: ds, t, h => by
    simp only [PyData.shownAll] at h
    rcases List.mem_cons.mp h with h | h
    · exact ⟨d, List.mem_cons_self, h⟩
    · obtain ⟨e, h1, h2⟩ := shownAll_mem h
      exact ⟨e, List.mem_cons_of_mem _ h1, h2⟩
theorem showableAll_of : ∀ {ds : List PyData}, (∀ d ∈ ds, d.showable = true) → PyData.showableAll ds = true
  | [], _ => by simp only [PyData.showableAll]
  | d :: ds, h => by
    simp only [PyData.showableAll, h d List.mem_cons_self, showableAll_of fun x hx => h x (List.mem_cons_of_mem _ hx), Bool.and_self]
theorem depthAll_of {n : Nat} : ∀ {ds : List PyData}, (∀ d ∈ ds, d.depth ≤ n) → PyData.depthAll ds ≤ n
  | [], _ => by simp only [PyData.depthAll]; exact Nat.zero_le _
  | d :: ds, h => by
    simp only [PyData.depthAll]
    exact Nat.max_le.mpr ⟨h d List.mem_cons_self, depthAll_of fun x hx => h x (List.mem_cons_of_mem _ hx)⟩
theorem sm_atom_int {i : Int} (h : i.natAbs < 10 ^ 21) : (PyData.int i).showable = true ∧ (PyData.int i).shown.length ≤ 300 := by
  constructor
  · simp only [PyData.showable, decide_eq_true_eq]
    have : i.natAbs.log2 < 1920 := by
      by_cases z : i.natAbs = 0
      · rw [z]; decide
      · have q : i.natAbs.log2 < 70 := (Nat.log2_lt z).mpr (Nat.lt_trans h (by decide))
        omega
    exact this
  · simp only [PyData.shown]
    have := int_text_length_le10 (a := i) (k := 21) (by decide) h
    rw [PySem.ofString_length]
    omega
theorem sm_atom_str {z : Str} (h : (decide (z.length ≤ 20) && PyData.strOk z) = true) : (PyData.str z).shown.length ≤ 300 := by
  rw [Bool.and_eq_true, decide_eq_true_eq] at h
  simp only [PyData.shown]
  have := StrLaws.reprText_len z fun c hc => by
    have q := Array.all_eq_true'.mp h.2 c (Array.mem_toList_iff.mp hc)
    have q : c < 1114112 := by simpa using q
    exact Nat.lt_trans q (by decide)
  omega
theorem sm_ok : ∀ (n : Nat) (d : PyData), sm n d = true → d.showable = true ∧ d.depth ≤ n ∧ d.shown.length ≤ smB n
  | n, .none, h => ⟨by simp only [PyData.showable], by simp only [PyData.depth]; exact Nat.zero_le _, by simp only [PyData.shown]; exact Nat.le_trans (by decide) (smB_le n)⟩
  | n, .bool b, h => ⟨by simp only [PyData.showable], by simp only [PyData.depth]; exact Nat.zero_le _, by simp only [PyData.shown]; exact Nat.le_trans (by cases b <;> decide) (smB_le n)⟩
  | n, .int i, h => by
    have h : decide (i.natAbs < 10 ^ 21) = true := by cases n <;> exact h
    have := sm_atom_int (of_decide_eq_true h)
    exact ⟨this.1, by simp only [PyData.depth]; exact Nat.zero_le _, Nat.le_trans this.2 (smB_le n)⟩
  | n, .str z, h => by
    have h : (decide (z.length ≤ 20) && PyData.strOk z) = true := by cases n <;> exact h
    exact ⟨by simp only [PyData.showable], by simp only [PyData.depth]; exact Nat.zero_le _, Nat.le_trans (sm_atom_str h) (smB_le n)⟩
  | 0, .list ds, h => by cases h
  | 0, .tuple ds, h => by cases h
  | 0, .dict ds, h => by cases h
  | n + 1, .list ds, h => by
    have h : (decide (ds.length ≤ 20) && ds.all (sm n)) = true := h
    rw [Bool.and_eq_true, decide_eq_true_eq, List.all_eq_true] at h
    have ih := fun d hd => sm_ok n d (h.2 d hd)
    refine ⟨?_, ?_, ?_⟩
    · simp only [PyData.showable]
      exact showableAll_of fun d hd => (ih d hd).1
    · simp only [PyData.depth]
      exact Nat.succ_le_succ (depthAll_of fun d hd => (ih d hd).2.1)
    · rw [PyData.shown_list, Str.length_append, Str.length_append]
      have := join_le (l := PyData.shownAll ds) (b := smB n) (fun t ht => by
        obtain ⟨d, hd, rfl⟩ := shownAll_mem ht
        exact (ih d hd).2.2) (by rw [PyData.shownAll_length]; exact h.1)
      have e1 : (("[" : String) : Str).length = 1 := rfl
      have e2 : (("]" : String) : Str).length = 1 := rfl
      unfold smB
      omega
  | n + 1, .tuple ds, h => by
    have h : (decide (ds.length ≤ 20) && ds.all (sm n)) = true := h
    rw [Bool.and_eq_true, decide_eq_true_eq, List.all_eq_true] at h
    have ih := fun d hd => sm_ok n d (h.2 d hd)
    refine ⟨?_, ?_, ?_⟩
    · simp only [PyData.showable]
      exact showableAll_of fun d hd => (ih d hd).1
    · simp only [PyData.depth]
      exact Nat.succ_le_succ (depthAll_of fun d hd => (ih d hd).2.1)
    · rw [PyData.shown_tuple, Str.length_append, Str.length_append]
      have := join_le (l := PyData.shownAll ds) (b := smB n) (fun t ht => by
        obtain ⟨d, hd, rfl⟩ := shownAll_mem ht
        exact (ih d hd).2.2) (by rw [PyData.shownAll_length]; exact h.1)
      have e1 : (("(" : String) : Str).length = 1 := rfl
      have e2 : (((if ds.length == 1 then ",)" else ")" : String)) : Str).length ≤ 2 := by split <;> decide
      unfold smB
      omega
  | n + 1, .dict kvs, h => by
    have h : kvs.isEmpty = true := h
    have : kvs = [] := List.isEmpty_iff.mp h
    subst this
    exact ⟨by simp only [PyData.showable, PyData.showableKv], by simp only [PyData.depth, PyData.depthKv]; omega, by rw [PyData.shown_dict]; exact Nat.le_trans (by decide) (smB_le _)⟩
end Kp


namespace Kp
open PySem PySem.Spec PyProof.Rows L2
section
variable {X : Cx} {w0 : Wl} {ss : SS} {a b : Expr} {pos : Pos} {R : AV → Prop}
/-! ### a number drawn from the pool -/
theorem k_take (i : Nat) {x : Str} {j : Nat} {p p2 : Pos} (D : Dn X.prog X.w X.K X.mg X.base "_law_take" 1 cTake) (hr : Room j X.A) (hj : 1 ≤ j) (hg : Gl X "_law_take") (hN : X.N[i]? = some x) (hs : ss[i]? = some (some .pool))
    (h : KE X w0 b ss fun y => onInt y fun n => 0 < n ∧ n < 1073741824 ∧ ∀ r : Nat, (r : Int) < n → R (.dat (.int (r : Int))))
    (hv : Vis X.env.scope x := by first | exact Or.inl rfl | exact Or.inr (Or.inl rfl) | exact Or.inr (Or.inr rfl)) (hd : (x == ("__debug__" : Str)) = false := by decide)
    (hcd : (x == ("__classdict__" : Str)) = false := by decide)
    (h1 : starEach [.Name x p2, b] X.env = (false, eval (.Name x p2) X.env) :: starEach [b] X.env := by rfl) (h2 : starEach [b] X.env = (false, eval b X.env) :: starEach [] X.env := by rfl) (hpl : (backTo pos (starEach [b] X.env)).any (·.1) = false := by rfl) :
    KE X w0 (.Call (.Name "_law_take" p) [.Name x p2, b] [] pos) ss R :=
  k_cd D hr hj hg (ka_cons (k_var i hN hs (ka_cons (KE.weak h fun y hy => by
    obtain ⟨n, rfl, n0, n1, hR⟩ := hy.of
    exact ka_nil ⟨rfl, n, rfl, n0, n1, fun r r0 r1 => by
      have q := hR r.toNat (by omega)
      rw [Int.toNat_of_nonneg r0] at q
      exact q⟩) h2) hv hd hcd) h1) (by decide) h1 hpl
/-- a row of texts, as they stand -/
def strsE : List Expr → Option (List Str)
  | [] => some []
  | .Constant (.str z) _ _ :: es => (strsE es).map (z :: ·)
  | _ :: _ => none
theorem ka_strs : ∀ {es : List Expr} {zs : List Str} {R : List AV → Prop}, strsE es = some zs → R (zs.map fun z => .dat (.str z)) → KA X w0 es ss R
  | [], _, _, e, h => by
    cases e
    exact ka_nil h
  | e :: es, zs, R, q, h => by
    unfold strsE at q
    split at q
    · rename_i q1
      cases q1
    · rename_i q1
      cases q1
      cases q2 : strsE es with
      | none => rw [q2] at q; cases q
      | some ys =>
        rw [q2] at q
        cases q
        exact ka_cons (k_str (ka_strs q2 h))
    · cases q
theorem onDats_strs : ∀ {zs : List Str} {P : List PyData → Prop}, P (zs.map .str) → onDats (zs.map fun z => AV.dat (.str z)) P
  | [], _, h => h
  | z :: zs, P, h => by
    show onDats (zs.map fun z => AV.dat (.str z)) fun ds => P (.str z :: ds)
    exact onDats_strs h
/-- a list of texts as it stands -/
theorem k_strs {es : List Expr} {zs : List Str} (e : strsE es = some zs) (hz : zs.length ≤ 100000) (hR : R (.dat (.list (zs.map .str)))) : KE X w0 (.List es pos) ss R :=
  k_lst (ka_strs e (onDats_strs ⟨by rw [List.length_map]; exact hz, hR⟩))
/-- one of the items of a list -/
theorem at_any {ds : List PyData} {r : Nat} (h : (r : Int) < ds.length) : ∃ d, atI ds r = some d ∧ d ∈ ds := by
  have h : r < ds.length := by omega
  exact ⟨ds[r], atI_nat (by simp [h]), List.getElem_mem h⟩
theorem k_pick (i : Nat) {x : Str} {j : Nat} {p p2 cpos : Pos} (D : Dn X.prog X.w X.K X.mg X.base "_law_take" 1 cTake) (hr : Room j X.A) (hj : 1 ≤ j) (hg : Gl X "_law_take") (hN : X.N[i]? = some x) (hs : ss[i]? = some (some .pool))
    (h : KE X w0 a ss fun y => onList y fun ds => KE X w0 b ss fun y => onInt y fun n => 0 < n ∧ n ≤ 10000 ∧ n ≤ ds.length ∧ ∀ d ∈ ds, R (.dat d))
    (hv : Vis X.env.scope x := by first | exact Or.inl rfl | exact Or.inr (Or.inl rfl) | exact Or.inr (Or.inr rfl)) (hd : (x == ("__debug__" : Str)) = false := by decide)
    (hcd : (x == ("__classdict__" : Str)) = false := by decide)
    (h1 : starEach [.Name x p2, b] X.env = (false, eval (.Name x p2) X.env) :: starEach [b] X.env := by rfl) (h2 : starEach [b] X.env = (false, eval b X.env) :: starEach [] X.env := by rfl) (hpl : (backTo cpos (starEach [b] X.env)).any (·.1) = false := by rfl) :
    KE X w0 (.Subscript a (.Call (.Name "_law_take" p) [.Name x p2, b] [] cpos) pos) ss R :=
  k_idx (fun _ _ => rfl) (KE.weak h fun y hy => by
    unfold onList at hy
    split at hy
    · rename_i ds
      refine k_take i D hr hj hg hN hs (KE.weak hy fun y hy => ?_) hv hd hcd h1 h2 hpl
      obtain ⟨n, rfl, n0, n1, n2, hR⟩ := hy.of
      refine ⟨n0, by omega, fun r hr => ?_⟩
      obtain ⟨d, e1, e2⟩ := at_any (ds := ds) (r := r) (by omega)
      exact ⟨d, e1, hR d e2⟩
    · exact hy.elim)
end
/-! ### small data are shaped -/
theorem sm_lay : ∀ (n : Nat) (d : PyData), sm n d = true → noD d = true → PyData.canLay0 d = true
  | n, .none, _, _ => by simp only [PyData.canLay0]
  | n, .bool _, _, _ => by simp only [PyData.canLay0]
  | n, .int _, _, _ => by simp only [PyData.canLay0]
  | n, .str z, h, _ => by
    have h : (decide (z.length ≤ 20) && PyData.strOk z) = true := by cases n <;> exact h
    rw [Bool.and_eq_true] at h
    simp only [PyData.canLay0]
    exact h.2
  | 0, .list ds, h, _ => by cases h
  | 0, .tuple ds, h, _ => by cases h
  | n + 1, .list ds, h, q => by
    have h : (decide (ds.length ≤ 20) && ds.all (sm n)) = true := h
    rw [Bool.and_eq_true, List.all_eq_true] at h
    simp only [PyData.canLay0]
    exact all (fun d hd qd => sm_lay n d (h.2 d hd) qd) q
  | n + 1, .tuple ds, h, q => by
    have h : (decide (ds.length ≤ 20) && ds.all (sm n)) = true := h
    rw [Bool.and_eq_true, List.all_eq_true] at h
    simp only [PyData.canLay0]
    exact all (fun d hd qd => sm_lay n d (h.2 d hd) qd) q
  | _, .dict _, _, q => by cases q
where
  all : ∀ {ds : List PyData}, (∀ d ∈ ds, noD d = true → PyData.canLay0 d = true) → noDA ds = true → PyData.canLayAll0 ds = true
    | [], _, _ => by simp only [PyData.canLayAll0]
    | d :: ds, h, q => by
      have q : (noD d && noDA ds) = true := q
      rw [Bool.and_eq_true] at q
      simp only [PyData.canLayAll0, h d List.mem_cons_self q.1, all (fun x hx => h x (List.mem_cons_of_mem _ hx)) q.2, Bool.and_self]
theorem okL_sm {n : Nat} {d : PyData} (h : sm n d = true) : okL d := fun z e => by
  subst e
  have h : (decide (z.length ≤ 20) && PyData.strOk z) = true := by cases n <;> exact h
  rw [Bool.and_eq_true, decide_eq_true_eq] at h
  exact ⟨by omega, h.2⟩
theorem okT_sm {n : Nat} {d : PyData} (hn : n ≤ 10) (h : sm n d = true) (q : noD d = true) : okT d := by
  cases d with
  | tuple ds =>
    have hl := sm_lay n _ h q
    have hd := (sm_ok n _ h).2.1
    cases n with
    | zero => cases h
    | succ n =>
      have h : (decide (ds.length ≤ 20) && ds.all (sm n)) = true := h
      rw [Bool.and_eq_true, decide_eq_true_eq, List.all_eq_true] at h
      refine ⟨by omega, fun x hx => okL_sm (h.2 x hx), q, ?_⟩
      unfold SeqAt.shaped
      rw [hl, Bool.true_and]
      exact decide_eq_true (by omega)
  | _ => trivial
end Kp


namespace Kp
open PySem PySem.Spec PyProof.Rows HT
open PySem.SeqAt
open PySem.AutoSeq1 (wpAny_loadPart')
open PySem.MeetsSeq PySem.MeetsSeq2 PySem.MeetsSeq3
/-! ### t[::-1] of a tuple -/
theorem adjust_back (n : Nat) : Builtin.Slice.sliceAdjust none none (-1) (n : Int) = ((n : Int) - 1, -1) := rfl
theorem places_back (n : Nat) : Builtin.Slice.slicePlaces ((n : Int) - 1) (-1) (-1) = n := by
  unfold Builtin.Slice.slicePlaces
  have neg1 : ¬ ((-1 : Int) > 0) := by decide
  rw [if_neg neg1]
  by_cases g : (n : Int) - 1 > -1
  · rw [if_pos g, show (-(-1) : Int) = 1 by decide, Int.ediv_one]
    omega
  · rw [if_neg g]
    have : n = 0 := by omega
    subst this
    rfl
theorem pick_back (xs : Array Value) : ((List.range xs.size).filterMap fun (k : Nat) => xs[(((xs.size : Int) - 1) + (k : Int) * (-1)).toNat]?).toArray = xs.toList.reverse.toArray := by
  have neg1 := PySem.W.krv_all xs
  have h2 := PySem.W.krv_range xs.size
  have e : (fun (k : Nat) => xs[(((xs.size : Int) - 1) + (k : Int) * (-1)).toNat]?) = (fun k => xs[k]?) ∘ fun k => xs.size - 1 - k := by
    funext k
    have : (((xs.size : Int) - 1) + (k : Int) * (-1)).toNat = xs.size - 1 - k := by omega
    show xs[(((xs.size : Int) - 1) + (k : Int) * (-1)).toNat]? = xs[xs.size - 1 - k]?
    rw [this]
  rw [e, ← List.filterMap_map, h2, List.filterMap_reverse, neg1]
section
variable {prg : Program} {w : World} {A : Around} {E : Value → Shared → Prop} {s : Shared}
theorem sliceApplied_back {sl : Addr} {v1 v2 v3 : Value} {n : Nat} {Q : Int × Int × Nat → Shared → Prop} (hS : s.heap.IsSliceOf sl v1 v2 v3) (pL : IsPart v1 none) (pU : IsPart v2 none) (pS : IsPart v3 (some (-1)))
    (h : Q ((n : Int) - 1, -1, n) s) : wpAny (model prg w) A (Builtin.Slice.sliceApplied (.ref sl) (pure (n : Int))) Q E s := by
  obtain ⟨ob, fo, fc, fz⟩ := id hS
  unfold Builtin.Slice.sliceApplied
  unfold Builtin.Slice.sliceFields
  refine wpAny_bind (wpAny_bind (wpAny_field fo fz (x := v1) rfl (wpAny_bind (wpAny_field fo fz (x := v2) rfl (wpAny_bind (wpAny_field fo fz (x := v3) rfl (wpAny_pure ?_)))))))
  refine wpAny_bind (slicePart_ pS ?_)
  show wpAny _ _ (if ((-1 : Int) == 0) = true then _ else _) _ _ s
  rw [if_neg (by decide)]
  refine wpAny_bind (slicePart_ pL (wpAny_bind (slicePart_ pU (wpAny_bind (wpAny_pure ?_)))))
  show wpAny _ _ (match Builtin.Slice.sliceAdjust none none (-1) (n : Int) with | (lo, hi) => pure (lo, (-1 : Int), Builtin.Slice.slicePlaces lo hi (-1))) _ _ s
  rw [adjust_back n]
  show wpAny _ _ (pure (((n : Int) - 1), (-1 : Int), Builtin.Slice.slicePlaces ((n : Int) - 1) (-1) (-1))) _ _ s
  rw [places_back]
  exact wpAny_pure h
theorem getItem_tuple_back {t sl : Addr} {ws : Array Value} {v1 v2 v3 : Value} {Q : Value → Shared → Prop} (hT : IsTup s.heap t ws) (hS : s.heap.IsSliceOf sl v1 v2 v3) (pL : IsPart v1 none) (pU : IsPart v2 none) (pS : IsPart v3 (some (-1)))
    (h : Q (.ref s.heap.objs.size) { s with heap := s.heap.push { cls := .type "tuple", data := .seq ws.toList.reverse.toArray } })
    (hz2 : ws.size ≤ sizeLine) : wpAny (model prg w) A (getItem (.ref t) (.ref sl)) Q E s := by
  have hfit : sizeOk (.seq ws.toList.reverse.toArray) := by
    show ws.toList.reverse.toArray.size ≤ sizeLine
    rw [List.size_toArray, List.length_reverse, Array.length_toList]
    exact hz2
  obtain ⟨ob, fo, fc, fz⟩ := id hS
  have tS : s.TypeIs (.ref sl) "slice" := ⟨ob, fo, fc⟩
  unfold getItem
  (try with_reducible refine wpAny_holding ?_)
  (first | refine wpAny_bind (wpAny_pure ?_) | skip)
  refine wpAny_bind (wpAny_sequenceKey hT.typeIs (by decide) ?_)
  refine wpAny_bind (wpAny_callSpecial?_slot (name := Str.ofString "__getitem__") hT.typeIs PyProof.Rows.slot_tuple_getitem
    (wpAny_call_entry PyProof.Rows.slot_tuple_getitem hT.typeIs entry_tuple_getitem ?_ (args_tuple_getitem _ _)))
  show wpAny (model prg w) _ (Builtin.Tuple.tupleItemsOf (.ref t) >>= _) _ _ s
  refine wpAny_bind (tupleItemsOf_ hT ?_)
  refine wpAny_bind (wpAny_typeOf tS ?_)
  rw [if_pos (by decide)]
  refine wpAny_bind (sliceApplied_back hS pL pU pS ?_)
  have hnot : ¬ ((((ws.size : Int) - 1) == 0 && (-1 : Int) == 1 && ws.size == ws.size) = true) := by
    intro q
    simp only [Bool.and_eq_true] at q
    exact absurd q.1.2 (by decide)
  show wpAny _ _ (if (((ws.size : Int) - 1) == 0 && (-1 : Int) == 1 && ws.size == ws.size) = true then _ else _) _ _ s
  rw [if_neg hnot, pick_back]
  first
    | exact wpAny_bind (m := Builtin.Tuple.tupleExact _) (wpAny_newObj_type (wpAny_pure ⟨_, rfl, wpAny_pure h⟩) hfit)
    | exact wpAny_bind (m := Builtin.Tuple.tupleExact _) (wpAny_newObj_type (wpAny_bind (wpAny_pure (wpAny_pure ⟨_, rfl, wpAny_pure h⟩))) hfit)
end
end Kp
namespace Kp
open PySem PySem.Spec PyProof.Rows L2
section
variable {X : Cx}
def tRevT (K : PySem.W.Frag) (te : TE) : TE := fun σ H Q => te σ H fun x G1 => ∃ a xs, x = .ref a ∧ SqT K G1 a xs ∧ ∀ p, G1 p = none → Q (.ref p) (upd G1 p (.tup xs.reverse))
theorem pe_revT {e : Expr} {te : TE} {k : Nat} {p1 p2 p3 pos : Pos} (he : PE X e te) : PE X (.Subscript e (.Slice none none (some (.UnaryOp .USub (.Constant (.int 1) k p1) p2)) p3) pos) (tRevT X.K te) := by
  refine ⟨fun pins s σ H Q I hq => ?_⟩
  refine Subscript_ (thn (he.run pins s σ H _ I hq) fun v t1 ⟨x, G1, J1, r1, z1⟩ => ?_)
  obtain ⟨a, xs, ex, hx, q⟩ := z1
  subst ex
  cases r1
  have hstep : PO X (some (.UnaryOp .USub (.Constant (.int 1) k p1) p2)) (tPart (tUn (rU fun i => .int (-i)) (tC (.int 1)))) := po_some (pe_un un_neg pe_int)
  refine wpAny_Slice (thn (po_none.run pins t1 σ G1 (fun o G2 => o = none ∧ G2 = G1) J1 ⟨rfl, rfl⟩) fun v1 t2 ⟨l, G2, J2, pL, el, e2⟩ => ?_)
  subst el e2
  refine thn (po_none.run pins t2 σ G2 (fun o G3 => o = none ∧ G3 = G2) J2 ⟨rfl, rfl⟩) fun v2 t3 ⟨u, G3, J3, pU, eu, e3⟩ => ?_
  subst eu e3
  refine thn (hstep.run pins t3 σ G3 (fun o G4 => o = some (-1) ∧ G4 = G3) J3 ⟨1, rfl, -1, rfl, rfl, rfl⟩) fun v3 t4 ⟨o, G4, J4, pS, eo, e4⟩ => ?_
  subst eo e4
  have J5 : Inv X pins σ G4 { t4 with heap := t4.heap.push { cls := .type "slice", data := .fields #[v1, v2, v3] } } := J4.kept (t' := t4.toks) fun b ob q => Heap.get?_push_of_some _ q
  obtain ⟨its, r, hT, hz⟩ := J5.tuple hx
  have hlen := r.length
  show wpAny (model X.prog X.w) X.A (subscriptTail e (.Slice none none (some (.UnaryOp .USub (.Constant (.int 1) k p1) p2)) p3) (.ref a) (.ref t4.heap.objs.size)) (EP X pins σ Q) X.xe { t4 with heap := t4.heap.push { cls := .type "slice", data := .fields #[v1, v2, v3] } }
  refine tail_any (ops := [.ref a, .ref t4.heap.objs.size]) hT.typeIs (PyProof.Rows.slot_tuple_getitem.lookup) ?_ (by with_unfolding_all rfl)
  refine getItem_tuple_back hT (Heap.IsSliceOf.new _ v1 v2 v3) pL pU pS ?_ (by rw [List.size_toArray]; omega)
  refine ⟨.ref _, _, J5.laid (t' := t4.toks) (o := .tup xs.reverse) (fun b ob q => Heap.get?_push_of_some _ q) (Nat.le_refl _) ?_, rfl, q _ (J5.hok.fresh (Nat.le_refl _))⟩
  exact ⟨by rw [List.length_reverse]; exact hz, _, r.reverse, IsTup.new _ _⟩
theorem k_revT {w0 : Wl} {ss : SS} {a : Expr} {k : Nat} {p1 p2 p3 pos : Pos} {R : AV → Prop} (h : KE X w0 a ss fun x => onTup x fun ds => R (.dat (.tuple ds.reverse))) : KE X w0 (.Subscript a (.Slice none none (some (.UnaryOp .USub (.Constant (.int 1) k p1) p2)) p3) pos) ss R :=
  PE.imp (pe_revT h) fun σ H Q ⟨w, ew, hS, q⟩ => ⟨w, ew, hS, fun v a w1 l1 hv hk => by
    have hk : onTup a fun ds => R (.dat (.tuple ds.reverse)) := hk
    unfold onTup at hk
    split at hk
    · cases hv with
      | tup neg1 d1 => exact ⟨_, _, rfl, w1.t neg1, Le.tup d1.rev hk fun v a w' l x r => q v a w' (l1.trans l) x r⟩
    · exact hk.elim⟩
end
end Kp


namespace Kp
open PySem PySem.Spec PyProof.Rows L2
/-! ### repr of any data -/
section
variable {X : Cx} {s : Shared} {H : Hp} {σ : L2.St} {pins : List (Addr × Obj)}
/-- what is an object of its own -/
def boxedD : PyData → Bool
  | .list _ => true
  | .tuple _ => true
  | .dict _ => true
  | _ => false
theorem shows_any (I : Inv X pins σ H s) {a : Addr} : ∀ {d : PyData}, Dd X.K H (.ref a) d → boxedD d = true → d.showable = true → d.shown.length ≤ sizeLine → ∃ T idr, ShowsBy X.prog X.w s.heap a d T idr
  | .list ds, hd, _, hs, hz => showsBy_dd I hd hs hz
  | .tuple ds, hd, _, hs, hz => by
    have hd0 := hd
    cases hd with
    | tup hp ha =>
      obtain ⟨its, rv, ⟨o, ho, hc, n, hdt⟩, _⟩ := I.tuple hp
      have hz' : (tupleText (PyData.shownAll ds)).length ≤ sizeLine := by simpa only [PyData.shown] using hz
      obtain ⟨bs, hb, hk⟩ := DdA.reprK I ds _ its ha rv (by simpa [PyData.showable] using hs) (fun t ht => Nat.le_trans (tupleText_mem_le ht) hz')
      obtain ⟨as, rd, _⟩ := Dd.reads I _ _ (.ref a) hd0 rfl
      have hna : a ∉ bs := not_mem_of_deeper rd (by simp only [PyData.depth]; omega) hb
      refine ⟨"tuple", "tuple.__repr__", F.slot_tuple_repr, F.slot_tuple_str, F.slot_tuple_format, fun s hk0 => ⟨o, hk0 _ _ ho, hc⟩, fun A E s Q hg hu hk0 hQ => ?_⟩
      simp only [PyData.depth] at hu
      simp only [PyData.shown] at hQ
      exact call_tuple_reprK ho hc hdt hna hk hg (fun b _ => Clear.nil b) hu hk0 hQ hz'
  | .dict kvs, hd, _, hs, hz => by
    cases hd with
    | dic hp =>
      obtain ⟨_, hsys, vs, rel, o, es, ep, e, ex, hdt, _, hes, _⟩ := (show ObjOk X.prog X.w H s.heap _ (.dK []) from I.hok _ _ hp)
      cases rel
      have hl : es.toList = [] := by
        have z := hes.length
        simpa using z
      refine ⟨"dict", "dict.__repr__", F.slot_dict_repr, F.slot_dict_str, F.slot_dict_format, fun s hk0 => ⟨o, hk0 _ _ e, ex.1⟩, fun A E s Q hg hu hk0 hQ => ?_⟩
      simp only [PyData.shown, PyData.shownKv] at hQ
      exact call_dict_reprK (as := []) (d := 0) (ps := []) e ex.1 hdt hsys (fun h => nomatch h) (by rw [hl]; exact .nil) hg (fun b _ => Clear.nil b) (by simpa only [PyData.depth, PyData.depthKv] using hu) hk0 hQ (by decide)
  | .none, _, h, _, _ => nomatch h
  | .bool _, _, h, _, _ => nomatch h
  | .int _, _, h, _, _ => nomatch h
  | .str _, _, h, _, _ => nomatch h
def rReprA (K : PySem.W.Frag) : List V → Hp → VK → Prop := fun xs H Q => ∃ v d, xs = [v] ∧ Dd K H v d ∧ d.showable = true ∧ d.depth ≤ 20 ∧ d.shown.length ≤ sizeLine ∧ Q (.str d.shown) H
theorem call_reprA (hg : X.A.guards = some []) (hu : X.A.units + 64 < cLine) : CallR X (.builtin "repr") (rReprA X.K) := by
  intro pn s1 σ1 H1 xs us Q I r h
  obtain ⟨v, d, rfl, hd, h1, h3, h4, q⟩ := h
  obtain ⟨v1, rfl, ru⟩ := vals1 r
  have go : ∀ a, v = .ref a → boxedD d = true → wpAny (model X.prog X.w) X.A (call (.builtin "repr") [v1]) (EP X pn σ1 Q) X.xe s1 := fun a e hb => by
    subst e
    cases ru
    obtain ⟨T, idr, S⟩ := shows_any I hd hb h1 h4
    exact call_repr_slot (by omega) (S.typeIs s1 fun _ _ e => e) S.slotRepr (S.call X.A.in1 _ s1 _ hg (by show X.A.units + 1 + d.depth < cLine; omega) (fun _ _ e => e) fun h' u tk hk => ⟨_, _, rfl, .str d.shown, H1, I.kept hk, ⟨_, rfl⟩, q⟩)
  cases hd with
  | non =>
    cases ru
    exact PySem.P.repr_of_none ⟨.str (PyData.none).shown, H1, I.tok _, ⟨_, by simp only [PyData.shown]; rfl⟩, q⟩
  | bl b =>
    cases ru
    exact PySem.P.repr_of_bool ⟨.str (PyData.bool b).shown, H1, I.tok _, ⟨_, by simp only [PyData.shown]; cases b <;> rfl⟩, q⟩
  | int i =>
    obtain ⟨t, rfl⟩ := ru
    exact PySem.P.repr_of_int (by simpa [PyData.showable] using h1) ⟨.str (PyData.int i).shown, H1, I.tok _, ⟨_, by simp only [PyData.shown]; rfl⟩, q⟩
  | str x =>
    obtain ⟨t, rfl⟩ := ru
    exact PySem.P.repr_of_str ⟨.str (PyData.str x).shown, H1, I.tok _, ⟨_, by simp only [PyData.shown]; rfl⟩, q⟩ (by simpa only [PyData.shown] using h4)
  | lst a b => exact go _ rfl rfl
  | tup a b => exact go _ rfl rfl
  | dic a => exact go _ rfl rfl
abbrev reprSA : List AV → (AV → Prop) → Prop
  | [.dat d], R => d.showable = true ∧ d.depth ≤ 20 ∧ d.shown.length ≤ 16777216 ∧ R (.dat (.str d.shown))
  | _, _ => False
theorem dl_reprA (hg : X.A.guards = some []) (hu : X.A.units + 64 < cLine) : DCl X (.builtin "repr") reprSA := ⟨_, call_reprA hg hu, fun xs R hy vs w Q av q => by
  unfold reprSA at hy
  split at hy
  · obtain ⟨v, rfl, hv⟩ := av.one
    obtain ⟨h1, h3, h4, hr⟩ := hy
    exact ⟨v, _, rfl, Dd.mono w.sub hv, h1, h3, by rw [sizeLine_eq]; exact h4, go q (.str _) hr⟩
  · exact hy.elim⟩
end
/-! ### stars in displays, join, extend, texts in order -/
section
variable {X : Cx} {w0 : Wl} {ss : SS} {a b : Expr} {pos : Pos} {R : AV → Prop}
abbrev onSeq (a : AV) (P : List PyData → Prop) : Prop := match a with | .dat (.list ds) => P ds | .dat (.tuple ds) => P ds | _ => False
theorem AvA.ofDats {K : PySem.W.Frag} {w : Wl} : ∀ {ds : List PyData} {vs : List V}, DdA K w.g vs ds → AvA K w vs (ds.map .dat)
  | [], _, .nil => .nil
  | _ :: _, _, .cons a t => .cons a (AvA.ofDats t)
theorem AvA.app {K : PySem.W.Frag} {w : Wl} : ∀ {vs us : List V} {as bs : List AV}, AvA K w vs as → AvA K w us bs → AvA K w (vs ++ us) (as ++ bs)
  | _, _, _, _, .nil, h => h
  | _, _, _, _, .cons a t, h => .cons a (AvA.app t h)
theorem ka_star {e : Expr} {es : List Expr} {p : Pos} {R : List AV → Prop} (h : KE X w0 e ss fun a => onSeq a fun ds => KA X w0 es ss fun as => R (ds.map .dat ++ as)) (hs : starEach (.Starred e p :: es) X.env = (true, eval e X.env) :: starEach es X.env := by rfl) : KA X w0 (.Starred e p :: es) ss R :=
  PA.imp (StX.pa_star h (pa_an (w0 := w0) (ss := ss)) hs) fun σ H Q ⟨w, ew, hsl, q⟩ => ⟨w, ew, hsl, fun v a w1 l1 hv hk => by
    have hk : onSeq a fun ds => KA X w0 es ss fun as => R (ds.map .dat ++ as) := hk
    unfold onSeq at hk
    split at hk
    · cases hv with
      | lst h1 d1 => exact ⟨_, _, rfl, .inr (.inl (.inl (w1.sub _ _ h1))), _, hk, w1, rfl, hsl.mono l1, fun vs as w2 l2 hvs hr => q _ _ w2 (l1.trans l2) ((AvA.ofDats (d1.mono l2.g)).app hvs) hr⟩
    · cases hv with
      | tup h1 d1 => exact ⟨_, _, rfl, .inl (w1.t h1), _, hk, w1, rfl, hsl.mono l1, fun vs as w2 l2 hvs hr => q _ _ w2 (l1.trans l2) ((AvA.ofDats (d1.mono l2.g)).app hvs) hr⟩
    · exact hk.elim⟩
/-- a text joins a list of texts -/
theorem k_join {o e : Expr} {apos : Pos} (h : KE X w0 o ss fun x => ∃ z : Str, x = .dat (.str z) ∧ KE X w0 e ss fun y => ∃ ys : List Str, y = .dat (.list (ys.map .str)) ∧ (ys.map (·.length)).sum + ys.length * z.length ≤ 16777216 ∧ R (.dat (.str (Txt.join z ys))))
    (hs : starEach [e] X.env = [(false, eval e X.env)] := by rfl) (hbase : attributeBase o "join" X.env (eval o X.env) = eval o X.env := by rfl) (hline : (apos.endLine == pos.line) = true := by rfl) : KE X w0 (.Call (.Attribute o "join" apos) [e] [] pos) ss R :=
  PE.imp (pe_join h (pe_an (w0 := w0) (ss := ss)) hs hbase hline) fun σ H Q ⟨w, ew, hsl, q⟩ => ⟨w, ew, hsl, fun v a w1 l1 hv hk => by
    obtain ⟨z, rfl, hk⟩ := hk
    cases hv
    refine ⟨⟨z, rfl⟩, _, hk, w1, rfl, hsl.mono l1, fun v2 y w2 l2 hv2 hy => ?_⟩
    obtain ⟨ys, rfl, hz, hr⟩ := hy
    cases hv2 with
    | lst h1 d1 =>
      have h1 := w2.sub _ _ h1
      rw [d1.strs] at h1
      exact ⟨z, _, ys, rfl, rfl, .inl (.inl (.inl h1)), hz, q _ (.dat (.str _)) w2 (l1.trans l2) (.str _) hr⟩⟩
theorem ks_ext (i : Nat) {x : Str} {e : Expr} {p apos cpos pos : Pos} {ds : List PyData} {N : AN} (hN : X.N[i]? = some x) (hi : ss[i]? = some (some (.buf ds))) (h : KE X w0 e ss fun a => onList a fun es => ds.length + es.length ≤ 100000 ∧ N.nx (ss.set i (some (.buf (ds ++ es)))))
    (hv : Vis X.env.scope x := by first | exact Or.inl rfl | exact Or.inr (Or.inl rfl) | exact Or.inr (Or.inr rfl)) (hd : (x == ("__debug__" : Str)) = false := by decide) (hcd : (x == ("__classdict__" : Str)) = false := by decide)
    (hbase : attributeBase (.Name x p) "extend" X.env (eval (.Name x p) X.env) = eval (.Name x p) X.env := by rfl)
    (hfew : ((backTo cpos (starEach [e] X.env)).all (fun x => !x.1) && (backToKw cpos (keywordEach [] X.env)).all (fun x => x.1.isSome) && decide (([e] : List Expr).length + ([] : List Keyword).length + (if ([] : List Keyword).isEmpty then 0 else 1) < 30)) = true := by rfl)
    (hline : (apos.endLine == cpos.line) = true := by rfl) (hs : starEach [e] X.env = (false, eval e X.env) :: starEach [] X.env := by rfl) (hplain : (backTo cpos (starEach [] X.env)).any (·.1) = false := by rfl)
    (hsw : swapsWith (.Call (.Attribute (.Name x p) "extend" apos) [e] [] cpos) none pos.line X.env = pure false := by rfl) : KS X w0 (.Expr (.Call (.Attribute (.Name x p) "extend" apos) [e] [] cpos) pos) ss N := by
  refine PS.imp (ps_expr (pe_bm PySem.F.plainAttrs_list PySem.F.slot_list_extend PySem.F.type_list_extend mt_extend (pe_var hN hv hd hcd) (pa_cons h pa_nil hs) hbase hfew hline hs hplain) hsw) fun D σ H ⟨w, ew, hsl, d⟩ => ?_
  subst ew
  obtain ⟨v, e1, q, us, rfl, h1, h2, h3⟩ := hsl.at_ i _ hi
  refine ⟨_, e1, .inl ⟨rfl, _, .inl (.inl h1)⟩, w, rfl, hsl, fun u a w1 l1 hu ha => ?_⟩
  have ha : onList a fun es => ds.length + es.length ≤ 100000 ∧ N.nx (ss.set i (some (.buf (ds ++ es)))) := ha
  unfold onList at ha
  split at ha
  · rename_i es
    obtain ⟨hz, hk⟩ := ha
    cases hu with
    | @lst b zs _ g0 hdd0 =>
      have g1 : w1.h q = some (.lst us) := l1.h _ _ h1
      have g2 : w1.g q = none := l1.hid q (by rw [h1]; simp) h2
      have hs1 := hsl.mono l1
      have h0 : w0.h q = none := hsl.fr i ds q hi e1
      have hdd := (h3.mono l1.g).append hdd0
      have hiL : i < ss.length := (List.getElem?_eq_some_iff.mp hi).1
      refine ⟨q, b, us, zs, rfl, rfl, g1, w1.sub _ _ g0, Nat.le_trans (by rw [h3.length, hdd0.length]; exact hz) (by decide), ?_⟩
      refine d.nx σ _ (w1.own q (.lst (us ++ zs)) g2) l1.g ⟨⟨hs1.le.g, fun b o eb => ?_, hs1.le.hid⟩, by rw [List.length_set]; exact hs1.len, fun j b eb => ?_, fun j k es fs z hjk b1 b2 b3 => ?_, fun j es b b1 b2 => ?_, hs1.so.away (hs1.sd i ds q hi e1) (Ex.refl _) (fun b hb => upd_ne hb) (fun b _ => rfl), fun j es b b1 b2 => ?_⟩ hk
      · show upd w1.h q _ b = some o
        rw [upd_ne (ne_of_none eb h0)]
        exact hs1.le.h b o eb
      · by_cases hj : i = j
        · subst hj
          rw [List.getElem?_set_self hiL] at eb
          cases eb
          exact ⟨_, e1, q, us ++ zs, rfl, upd_same, g2, hdd⟩
        · rw [List.getElem?_set_ne hj] at eb
          obtain ⟨z, c1, c2⟩ := hs1.at_ j b eb
          refine ⟨z, c1, ?_⟩
          cases b with
          | dat d => exact c2
          | pool => exact c2
          | scr ns => exact c2
          | err C es => exact c2
          | at_ p => exact c2
          | reg m => exact c2
          | ins C es => exact c2
          | nmd m => exact c2
          | buf fs =>
            obtain ⟨p, ws, rfl, f1, f2, f3⟩ := c2
            have z : p ≠ q := fun z => by
              subst z
              exact hs1.ap i j ds fs _ hj hi eb e1 c1
            exact ⟨p, ws, rfl, (upd_ne z).trans f1, f2, f3⟩
      · by_cases hj : i = j
        · subst hj
          rw [List.getElem?_set_ne hjk] at b2
          exact hs1.ap i k ds fs z hjk hi b2 b3
        · rw [List.getElem?_set_ne hj] at b1
          by_cases hk2 : i = k
          · subst hk2
            exact hs1.ap j i es ds z hjk b1 hi b3
          · rw [List.getElem?_set_ne hk2] at b2
            exact hs1.ap j k es fs z hjk b1 b2 b3
      · by_cases hj : i = j
        · subst hj
          exact hs1.fr i ds b hi b2
        · rw [List.getElem?_set_ne hj] at b1
          exact hs1.fr j es b b1 b2
      · by_cases hj : i = j
        · subst hj
          exact hs1.sd i ds b hi b2
        · rw [List.getElem?_set_ne hj] at b1
          exact hs1.sd j es b b1 b2
  · exact ha.elim
abbrev geS (x y : AV) (R : Bool → Prop) : Prop := match x, y with
  | .dat (.int i), .dat (.int j) => R (decide (j ≤ i))
  | .dat (.str i), .dat (.str j) => R (!decide (i.cps.toList < j.cps.toList))
  | _, _ => False
theorem dc_geS : DCmp X .GtE geS := ⟨_, OpR.or op_ge op_ge_str, fun x y R hy vx vy w Q ax ay q => by
  unfold geS at hy
  split at hy
  · cases ax
    cases ay
    exact .inl ⟨_, _, rfl, rfl, go q (.bl _) hy⟩
  · cases ax
    cases ay
    exact .inr ⟨_, _, rfl, rfl, go q (.bl _) hy⟩
  · exact hy.elim⟩
abbrev tupS : List AV → (AV → Prop) → Prop
  | [.dat (.list ds)], R => R (.dat (.tuple ds))
  | [.dat (.tuple ds)], R => R (.dat (.tuple ds))
  | _, _ => False
theorem dl_tuple : DCl X (.type "tuple") tupS := ⟨_, call_tuple_of, fun xs R hy vs w Q av q => by
  unfold tupS at hy
  split at hy
  · obtain ⟨v, rfl, hv⟩ := av.one
    cases hv with
    | lst h1 d1 => exact ⟨_, _, rfl, .inl ⟨.inl (.inl (w.sub _ _ h1)), Le.tup d1 hy q⟩⟩
  · obtain ⟨v, rfl, hv⟩ := av.one
    cases hv with
    | tup h1 d1 => exact ⟨_, _, rfl, .inr ⟨w.t h1, go q (.tup h1 d1) hy⟩⟩
  · exact hy.elim⟩
end
end Kp


namespace Kp
open PySem PySem.Spec PyProof.Rows L2
/-! ### defs that raise an own error with fields -/
theorem FdA.zip {K : PySem.W.Frag} {H : Hp} : ∀ (ns : List Str) {ws : List V} {ds : List PyData}, DdA K H ws ds → FdA K H (ns.zip ws) (ns.zip ds)
  | [], _, _, _ => by
    rw [List.zip_nil_left, List.zip_nil_left]
    exact ⟨rfl, .nil⟩
  | n :: ns, _, _, .nil => by
    rw [List.zip_nil_right, List.zip_nil_right]
    exact ⟨rfl, .nil⟩
  | n :: ns, _, _, .cons a t => by
    obtain ⟨h1, h2⟩ := FdA.zip ns t
    rw [List.zip_cons_cons, List.zip_cons_cons]
    exact ⟨congrArg (n :: ·) h1, .cons a h2⟩
theorem FdA.rev {K : PySem.W.Frag} {H : Hp} {fs : List (Str × V)} {ds : List (Str × PyData)} (h : FdA K H fs ds) : FdA K H fs.reverse ds.reverse := by
  refine ⟨?_, ?_⟩
  · rw [List.map_reverse, List.map_reverse, h.1]
  · rw [List.map_reverse, List.map_reverse]
    exact h.2.rev
theorem exFree {H H' : Hp} {p : Addr} (e : Ex H H') (h : H' p = none) : H p = none := by
  cases q : H p with
  | none => rfl
  | some o =>
    have z := e p o q
    rw [h] at z
    cases z
/-- what is wanted where an error leaves -/
def outS (K : PySem.W.Frag) (w0 : Wl) (RX : Addr → List (Str × PyData) → Prop) (E : XK) : Prop :=
  ∀ (C d : Addr) (fs : List (Str × V)) (ds : List (Str × PyData)) (w' : Wl), Le w0 w' → w0.h d = none → w'.h d = some (.xd fs) → w'.g d = none → FdA K w'.g fs ds → RX C ds → E (.ref C) (some d) w'.h
theorem outS.mono {K : PySem.W.Frag} {w0 w1 : Wl} {RX : Addr → List (Str × PyData) → Prop} {E : XK} (l : Le w0 w1) (h : outS K w0 RX E) : outS K w1 RX E :=
  fun C d fs ds w' l1 hd hx hg hf r => h C d fs ds w' (l.trans l1) (exFree l.h hd) hx hg hf r
def spX (K : PySem.W.Frag) (C : List AV → (AV → Prop) → (Addr → List (Str × PyData) → Prop) → Prop) : Sp := fun vs H Q E => ∃ (w : Wl) (as : List AV) (R : AV → Prop) (RX : Addr → List (Str × PyData) → Prop), w.h = H ∧ AvA K w vs as ∧ (as.all AV.plain = true ∧ C as R RX) ∧
  (∀ v a w', Le w w' → Av K w' v a → R a → Q v w'.h) ∧ outS K w RX E
section
variable {base : Heap} {K : PySem.W.Frag} {w : World} {P : Program} {mg : Str → Option Value}
abbrev cxX (P : Program) (w : World) (K : PySem.W.Frag) (mg : Str → Option Value) (base : Heap) (N : List Str) (qual : Str) (scope : Scope) (f : Addr) (cd : Value) (A : Around) (outer : List Env) (s : Shared) (H : Hp) (E : XK) : Cx := cxOf (L2.CX P w) P w K mg base N qual scope f cd A outer s H E
theorem okX {x qual : Str} {st : Stmt} {f : Addr} {fd : FuncData} {N ps : List Str} {k : Nat} {C : List AV → (AV → Prop) → (Addr → List (Str × PyData) → Prop) → Prop} (F : Fun K x qual st f fd) (S : FnScope N ps (defScope st)) (len : ∀ as R RX, C as R RX → as.length = ps.length)
    (hbody : ∀ (cdv : Value) (A : Around) (outer : List Env) (s : Shared) (H : Hp) (E : XK) (w0 : Wl) (as : List AV) (R : AV → Prop) (RX : Addr → List (Str × PyData) → Prop), Room k (A.deeper (envOfC qual (defScope st) s.heap.objs.size f cdv)) → C as R RX → outS K w0 RX E →
      KSs (cxX P w K mg base N qual (defScope st) f cdv A outer s H E) w0 (defBody st) (ss0 N.length as) { nx := fun _ => R (.dat .none), rt := R }) : FnOk P w K mg base (L2.CX P w) (k + 1) f fd ps (spX K C) := by
  refine F.okX S (fun vs H Q E ⟨w0, as, R, RX, e, hv, hc, q, o⟩ => by rw [hv.length]; exact len as R RX hc.2) fun cdv A outer s H vs Q E hr ⟨w0, as, R, RX, e, hv, hc, q, o⟩ => ?_
  refine ⟨_, hbody cdv A outer s H E w0.bare as R RX hr hc.2 (fun C d fs ds w' l => o C d fs ds w' l.unbare), w0, e, Sl.start hv hc.1, ⟨fun σ' ss' w' _ hs hk => q .non (.dat .none) w' hs.le.unbare .non hk, fun v a w' _ hl ha hr => q v a w' hl.unbare ha hr, fun _ _ _ _ _ h => h.elim, fun _ _ _ _ _ h => h.elim⟩⟩
end
section
variable {X : Cx} {w0 : Wl} {ss : SS}
/-- a def that may raise, called where errors leave as they are -/
theorem k_callX {C : List AV → (AV → Prop) → (Addr → List (Str × PyData) → Prop) → Prop} {k : Nat} {f : Addr} {fd : FuncData} {ps : List Str} {x : Str} {p pos : Pos} {e : Expr} {es : List Expr} {R : AV → Prop} {RX : Addr → List (Str × PyData) → Prop} {E : XK}
    (F : FnOk X.prog X.w X.K X.mg X.base (L2.CX X.prog X.w) k f fd ps (spX X.K C)) (hr : Room k X.A) (hg : Gl X x) (hm : X.mg x = some (.ref f)) (hk : PySem.W.keepIn X.K (.ref f) = true) (hb : Binds X.K fd ps []) (tk : Takes X fun cls d _ H => E cls d H) (out : outS X.K w0 RX E)
    (h : KA X w0 (e :: es) ss fun as => as.all AV.plain = true ∧ C as R RX) (hdb : (x == ("__debug__" : Str)) = false := by decide) (he : starEach (e :: es) X.env = (false, eval e X.env) :: starEach es X.env := by rfl) (hpl : (backTo pos (starEach es X.env)).any (·.1) = false := by rfl) :
    KE X w0 (.Call (.Name x p) (e :: es) [] pos) ss R :=
  PE.imp (pe_call (E := E) F hr hg hm hk hb .nil (fun pins σ H s u s' I c => passAt tk σ pins H s u s' I c) h hdb he hpl) fun σ H Q ⟨w, ew, hs, q⟩ => ⟨w, ew, hs, fun vs as w1 l1 hvs hk => by
    show spX X.K C (vs ++ []) w1.h Q E
    rw [List.append_nil]
    exact ⟨w1, as, R, RX, rfl, hvs, hk, fun v2 a2 w2 l2 h2 r2 => q v2 a2 w2 (l1.trans l2) h2 r2, out.mono (hs.le.trans l1)⟩⟩
/-- an own error's __init__, that keeps its values by these names, in this order -/
def spInit (C : Addr) (ns : List Str) : Sp := fun vs H Q _ => ∃ (a : Addr) (ws : List V), vs = .ref a :: ws ∧ ws.length = ns.length ∧ H a = some (exo a C none) ∧
  ∀ (dx : Addr) (H' : Hp), H dx = none → dx ≠ a → H' a = some (exo a C (some dx)) → H' dx = some (exd dx (ns.zip ws).reverse) → (∀ b, b ≠ a → b ≠ dx → H' b = H b) → Q .non H'
theorem ks_raise {x : Str} {C fI : Addr} {k : Nat} {fd : FuncData} {ps ns : List Str} {e : Expr} {es : List Expr} {p pos pos2 : Pos} {RX : Addr → List (Str × PyData) → Prop} {E : XK} {N : AN} (hc : X.calm = true) (tk : Takes X fun cls d _ H => E cls d H) (T : OexC X.K C)
    (iC : PySem.W.findIn X.K (.ref C) "__init__" = some (some (.ref fI))) (tI : PySem.W.typeIn X.K (.ref fI) = some (.type "function")) (F1 : FnOk X.prog X.w X.K X.mg X.base CX0 k fI fd ps (spInit C ns)) (hr : Room (k + 1) X.A) (hb : Binds X.K fd ps []) (hg : Gl X x) (hm : X.mg x = some (.ref C)) (out : outS X.K w0 RX E)
    (h : KA X w0 (e :: es) ss fun as => onDats as fun ds => ds.length = ns.length ∧ ds.length ≤ 1000 ∧ RX C (ns.zip ds).reverse)
    (hdb : (x == ("__debug__" : Str)) = false := by decide) (he : starEach (e :: es) X.env = (false, eval e X.env) :: starEach es X.env := by rfl) (hpl : (backTo pos (starEach es X.env)).any (·.1) = false := by rfl) :
    KS X w0 (.Raise (some (.Call (.Name x p) (e :: es) [] pos)) none pos2) ss N :=
  PS.imp (L2.ps_raise hc tk (pmk_oex T iC tI F1 hr hb .nil pass0 hg hm h hdb he hpl)) fun D σ H ⟨w, ew, hs, d⟩ => ⟨w, ew, hs, fun vs as w1 l1 hvs hk => by
    obtain ⟨ds, rfl, hl, hz, hx⟩ := hk.of
    have hd := AvA.dats hvs
    refine ⟨by rw [hd.length]; exact hz, fun a ha => ?_⟩
    rw [List.append_nil]
    refine ⟨a, vs, rfl, by rw [hd.length]; exact hl, upd_same, fun dx H' h1 h2 h3 h4 h5 => ?_⟩
    have h1' : w1.h dx = none := by
      rw [upd_ne h2] at h1
      exact h1
    refine ⟨rfl, dx, _, h3, h4, h1', ?_⟩
    have ex : Ex w1.h (upd (del H' a) dx (.xd (ns.zip vs).reverse)) := fun b o q => by
      have n1 : b ≠ a := ne_of_none q ha
      have n2 : b ≠ dx := ne_of_none q h1'
      rw [upd_ne n2, del_ne n1, h5 b n1 n2, upd_ne n1]
      exact q
    have le : Le w1 (w1.more _ ex) := Le.more ex
    exact out C dx _ _ (w1.more _ ex) ((hs.le.trans l1).trans le) (exFree (hs.le.trans l1).h h1') upd_same (w1.gfree h1') (FdA.zip ns hd).rev hx⟩
end
end Kp


namespace Kp
open PySem PySem.Spec PyProof.Rows L2
/-! ### a caught error, kept behind its suite -/
theorem exk_ok {P : Program} {w : World} {H : Hp} {h : Heap} {cls : Value} {d : Option Addr} {a : Addr} {oe : Obj} {vs : Array Value} (e : h.get? a = some oe) (z : Zc cls d oe) (hd : oe.data = .fields vs) : ObjOk P w H h a (ExK cls d a) :=
  ⟨⟨oe, vs, e, z, hd⟩, ⟨oe, e⟩, fun _ _ ⟨o, v, q, r⟩ k => ⟨o, v, k o q, r⟩⟩
section
variable {X : Cx} {s : Shared} {H : Hp} {σ : L2.St} {pins : List (Addr × Obj)}
/-- what is pinned is tracked from here -/
theorem track {a : Addr} {oe : Obj} {vs : Array Value} {cls : Value} {d : Option Addr} (I : Inv X ((a, oe) :: pins) σ H s) (young : X.s_0.heap.get? a = none) (np : ∀ p ∈ X.pn ++ pins, p.1 ≠ a) (hz : Zc cls d oe) (hd : oe.data = .fields vs) : Inv X pins σ (upd H a (ExK cls d a)) s := by
  obtain ⟨e, n, nL, nF, nc⟩ := I.pin (a, oe) (List.mem_append_right _ List.mem_cons_self)
  have e : s.heap.get? a = some oe := e
  have n : H a = none := n
  have ne : ∀ b o, X.s_0.heap.get? b = some o → b ≠ a := fun b o q z => by
    rw [z, young] at q
    cases q
  have nh : ∀ b o, H b = some o → b ≠ a := fun b o q z => by
    rw [z, n] at q
    cases q
  refine ⟨I.ok, I.os, I.bare, ⟨I.base.keep, I.base.slot, fun b o q h0 hx => ?_, I.base.there, fun b xs q => ?_, fun b o u q => ?_, fun b ps q => ?_⟩, I.loc, I.cell, ?_, fun x c hc => ?_, fun p hp => ?_, L2.HOk.laidN I.hok (fun _ _ q => q) n (exk_ok e hz hd), I.len⟩
  · rw [upd_ne (ne b o q)]
    exact I.base.free b o q h0 hx
  · have g := I.base.tups b xs q
    rw [upd_ne (nh b _ g)]
    exact g
  · have g := I.base.frzs b o u q
    rw [upd_ne (nh b _ g)]
    exact g
  · obtain ⟨more, g⟩ := I.base.tbls b ps q
    exact ⟨more, by rw [upd_ne (nh b _ g)]; exact g⟩
  · rw [upd_ne (Ne.symm nL)]
    exact I.free
  · have g : c ≠ a := fun z => by
      obtain ⟨v, o1, q1, q2⟩ := I.cell x c hc
      rw [z, e] at q1
      cases q1
      exact nc v q2
    rw [upd_ne g]
    exact I.freeC x c hc
  · have hp2 : p ∈ X.pn ++ ((a, oe) :: pins) := (List.mem_append.mp hp).elim (List.mem_append_left _) fun z => List.mem_append_right _ (List.mem_cons_of_mem _ z)
    obtain ⟨g1, g2, g3, g4, g5⟩ := I.pin p hp2
    exact ⟨g1, by rw [upd_ne (np p hp)]; exact g2, g3, g4, g5⟩
theorem unsuiteK {a : Addr} {q : Addr × Obj} (I : Inv (X.suite a (q :: (X.pn ++ pins))) [] σ H s) (ok : X.Ok) : Inv X (q :: pins) σ H s :=
  ⟨ok, I.os, I.bare, I.base, I.loc, I.cell, I.free, I.freeC, fun p hp => I.pin p (List.mem_append_left _ ((List.mem_append.mp hp).elim (fun z => List.mem_cons_of_mem _ (List.mem_append_left _ z)) fun z => (List.mem_cons.mp z).elim (fun z => by rw [z]; exact List.mem_cons_self) fun z => List.mem_cons_of_mem _ (List.mem_append_right _ z))), I.hok, I.len⟩
end
/-- what the clause wishes, where the error is kept -/
def wKeep (K : PySem.W.Frag) (c : Value) (i : Nat) (ts : Addr → Value → Option Addr → TS) (Wout : WX) (D : Ends) : WX := fun cls d σ H =>
  ∃ b, PySem.W.exmOne K cls c = some b ∧ (b = true → ∀ a, H a = none → ts a cls d { nx := fun σ' H' => D.nx (σ'.set i none) (upd H' a (ExK cls d a)), rt := fun v H' => D.rt v (upd H' a (ExK cls d a)), bk := fun σ' H' => D.bk (σ'.set i none) (upd H' a (ExK cls d a)), ct := fun σ' H' => D.ct (σ'.set i none) (upd H' a (ExK cls d a)) } (σ.set i (some (.ref a))) H) ∧
    (b = false → Wout cls d σ H)
section
variable {X : Cx} {x n : Str} {c : Value} {i : Nat} {body suite : List Stmt} {st0 : Stmt} {np pos pos' : Pos} {tb : WX → TS} {ts : Addr → Value → Option Addr → TS} {Wout : WX}
theorem ps_keep (hs : X.stack = X.env :: X.outer) (hf : X.env.frame = some X.env.locals) (hex : X.ex = []) (hN : X.N.Nodup) (hi : X.N[i]? = some n) (hln : X.env.kindOf n = some .local) (hc : Names X x c) (tks : Takes X Wout)
    (hbody : ∀ (W : WX) (pn : List (Addr × Obj)) (xe : Value → Shared → Prop), Takes (X.tr pn xe) W → PassesOwn (model X.prog X.w) X.A X.env xe → PSs (X.tr pn xe) body (tb W))
    (hsuite : ∀ (a : Addr) (oe : Obj) (cls : Value) (d : Option Addr) (pn : List (Addr × Obj)), Zc cls d oe → (∃ vs, oe.data = .fields vs) → PSs (X.suite a ((a, oe) :: pn)) (st0 :: suite) (ts a cls d)) :
    PS X (.Try body [.ExceptHandler (some (.Name x np)) (some n) (st0 :: suite) pos'] [] [] pos) (fun D σ H => tb (wKeep X.K c i ts Wout D) D σ H) := by
  refine ⟨fun pins s σ H D I hq0 => ?_⟩
  have okk := I.ok
  have hfs : X.A.frames = some (X.env :: X.outer) := by rw [okk.frames, hs]
  have hlo : Loc X.env.scope n := .inl hln
  refine wpAny_Try_except ?_
  refine wpAny_mono ((hbody (wKeep X.K c i ts Wout D) (X.pn ++ pins) (fun e s₁ => wpAny (model X.prog X.w) X.A (noteFrame e X.env) (fun _ s₂ => wpAny (model X.prog X.w) X.A (setFlight e none) (fun _ s₃ =>
    wpAny (model X.prog X.w) X.A (handleBy e X.env [.ExceptHandler (some (.Name x np)) (some n) (st0 :: suite) pos']) (SP X pins D) X.xe s₃) X.xe s₂) X.xe s₁) (fun u s' xx => ?_) PassesOwn.looking).run [] s σ H D (I.toTry _) hq0) (fun f s1 hsp => ?_) (fun e s1 he => he)
  · -- the catch
    obtain ⟨a, B, sI, pn2, σ', H', cls, d, rfl, J', nb, uu, air, na, os, ag, b, hbb, yes, nay⟩ := xx
    have J : Inv X pins σ' H' sI := J'.ofTry okk
    have air2 : Sky B (X.env :: X.outer) a (Zc cls d) X.env.locals s'.heap := by rw [← hs]; exact air
    show wpAny (model X.prog X.w) X.A (noteFrame (Value.ref a) X.env) _ _ _
    refine Sky.land Zc.steady hfs hf air2 fun ha3 fa ua => ?_
    have Ja : Inv X pins σ' H' { s' with heap := ha3 } := J.landed nb fa.1 (uu.trans ua) os ag
    obtain ⟨oa3, va3, ea3, za3, da3⟩ := fa.there
    have noFr : ∀ {h : Heap} {o : Obj} {vs : Array Value}, h.FunFrames B (X.env :: X.outer) → h.get? a = some o → o.data = .fields vs → a ∉ frs (X.env :: X.outer) := fun {h o vs} ff e dd hm => by
      obtain ⟨_, o', e', hnf⟩ := (ff.mem hm)
      rw [e] at e'; cases e'
      exact hnf _ dd
    have nof := noFr fa.2.2.1 ea3 da3
    have nL : a ≠ X.env.locals := fun z => nof (List.mem_filterMap.mpr ⟨X.env, List.mem_cons_self, by rw [hf, z]⟩)
    have nF : a ∉ X.fs := fun g => by
      obtain ⟨e, he, q⟩ := List.mem_filterMap.mp g
      exact nof (List.mem_filterMap.mpr ⟨e, List.mem_cons_of_mem _ he, q⟩)
    have Sa := Ja.suite ea3 da3 na nL nF
    refine wpAny_handleBy_cons (codeAny_handlers_test ?_) (fun q => by cases q)
    have lt : PySem.W.Looks (model X.prog X.w) ha3 (typeOf (.ref a)) cls := fun A Q E s k q => wpAny_typeOf_ref (k _ _ ea3) (by rw [za3.1]; exact q)
    have lm := PySem.W.exm_one (M := model X.prog X.w) (Ja.kIn) lt hbb
    have test : ∀ {Q : Value → Shared → Prop} {E : Value → Shared → Prop}, Q c { s' with heap := ha3 } → wpAny (model X.prog X.w) (X.A.mark (some (.ref a))) (eval (.Name x np) X.env) Q E { s' with heap := ha3 } := fun {Q E} q => by
      obtain ⟨hg, hdbg, hm | ⟨hm, hv, hnm⟩⟩ := hc
      · exact ld_glob (X := X.suite a ((a, oa3) :: (X.pn ++ pins))) Sa hg hm q hdbg
      · exact ld_blt (X := X.suite a ((a, oa3) :: (X.pn ++ pins))) Sa hg hm hv q hnm hdbg
    refine test (lm.here ?_)
    cases b with
    | true =>
      refine codeAny_handlers_suite_as (?_)
      refine HandSPX.lands_againZ fa fun hb4 fb ub => ?_
      have Jb : Inv X pins σ' H' { s' with heap := hb4 } := J.landed nb fb.1 ((uu.trans ua).trans ub) os ag
      obtain ⟨ob4, vb4, eb4, zb4, db4⟩ := fb.there
      have Sb := Jb.suite eb4 db4 na nL nF
      refine store_ok (X := X.suite a ((a, ob4) :: (X.pn ++ pins))) (v := .ref a) Sb hN hi hlo rfl (fun sc Sc => ?_) (.inr hln)
      refine wpAny_mono ((hsuite a ob4 cls d (X.pn ++ pins) zb4 ⟨_, db4⟩).run [] sc _ H' _ Sc (yes rfl a na)) (fun f sd hsp => ?_) (fun _ _ z => False.elim z)
      have hyoung : X.s_0.heap.get? a = none := by
        cases e : X.s_0.heap.get? a with
        | none => rfl
        | some o =>
          obtain ⟨o', e'⟩ := J.base.there a o e (by rw [hex]; exact fun z => nomatch z)
          have e2 := nb _ _ e' (by show a ∉ frs X.stack; rw [hs]; exact nof)
          rw [fa.2.1] at e2
          cases e2
      have np : ∀ p ∈ X.pn ++ pins, p.1 ≠ a := fun p hp z => by
        have e := (J.pin p hp).1
        rw [z] at e
        have e2 := nb _ _ e (by show a ∉ frs X.stack; rw [hs]; exact nof)
        rw [fa.2.1] at e2
        cases e2
      have end_ : ∀ {σd : L2.St} {Hd : Hp} {Q : Shared → Prop}, Inv (X.suite a ((a, ob4) :: (X.pn ++ pins))) [] σd Hd sd → (∀ s7, Inv X pins (σd.set i none) (upd Hd a (ExK cls d a)) s7 → Q s7) →
          wpAny (model X.prog X.w) X.A (do bindName X.env n .none; unbindBehindTheSuite X.env n pos') (fun _ s7 => Q s7) X.xe sd := fun {σd Hd Q} Sd hq => gone_ok (unsuiteK Sd okk) hN hi hln fun s7 J7 => hq s7 (track J7 hyoung np zb4 db4)
      cases f with
      | next =>
        obtain ⟨σd, Hd, Sd, qd⟩ := hsp
        exact end_ Sd fun s7 J7 => ⟨_, _, J7, qd⟩
      | brk =>
        obtain ⟨σd, Hd, Sd, qd⟩ := hsp
        exact end_ Sd fun s7 J7 => ⟨_, _, J7, qd⟩
      | cont =>
        obtain ⟨σd, Hd, Sd, qd⟩ := hsp
        exact end_ Sd fun s7 J7 => ⟨_, _, J7, qd⟩
      | ret u =>
        obtain ⟨vd, σd, Hd, Sd, rd, qd⟩ := hsp
        exact end_ Sd fun s7 J7 => ⟨_, _, _, J7, rd, qd⟩
    | false =>
      show wpAny _ X.A (handleBy (Value.ref a) X.env []) _ _ _
      refine wpAny_handleBy_nil ?_
      obtain ⟨c1, c2, c3, oe, vs, T, oT, ts', he, hz, hd, h1, hr⟩ := id fa
      unfold PySem.passOn
      refine wpAny_bind (wpAny_field he hd h1 (?_))
      rw [if_neg (show ¬ ((Value.ref T == Value.none) = true) from by simp)]
      have fin2 : wpAny (model X.prog X.w) X.A (setFlight (.ref a) X.env.frame) (fun _ s4 => wpAny (model X.prog X.w) X.A (throw (.ref a) : Sem Flow) (SP X pins D) X.xe s4) X.xe { s' with heap := ha3 } := by
        rw [hf]
        refine HandSPX.setFlight_upZ fa fun hb4 hh4 ub => wpAny_throw (tks _ _ ?_)
        exact ⟨a, B, sI, pins, σ', H', cls, d, rfl, J, nb, (uu.trans ua).trans ub, .inr (.inr (by rw [hs]; exact hh4)), na, os, ag, nay rfl⟩
      first
        | exact wpAny_bind (wpAny_pure (wpAny_bind fin2))
        | exact wpAny_bind fin2
  · cases f with
    | next =>
      obtain ⟨σ', H', J', q⟩ := hsp
      exact wpAny_execs_nil ⟨σ', H', J'.ofTry okk, q⟩
    | brk =>
      obtain ⟨σ', H', J', q⟩ := hsp
      exact ⟨σ', H', J'.ofTry okk, q⟩
    | cont =>
      obtain ⟨σ', H', J', q⟩ := hsp
      exact ⟨σ', H', J'.ofTry okk, q⟩
    | ret u =>
      obtain ⟨v, τ, H', J', r, q⟩ := hsp
      exact ⟨v, τ, H', J'.ofTry okk, r, q⟩
end
end Kp


/-! isinstance of a kept error, its own dict or none -/
namespace KpW
open PySem PySem.W PySem.Spec PySem.Calls PyProof.Rows
section
variable {K : Frag} {prog : Program} {w : World} {A : Around} {s : Shared} {E : Value → Shared → Prop} {x D : Addr} {ox : Obj}
theorem find_data {od : Option Obj} {C : Addr} {name : Str} {a g : Value} (hc : (clsIn K C).isSome = true) (hav : findIn K (.ref C) name = some (some a)) (hg : specialIn K a "__get__" = some (some g)) (ht : takesIn K a = some true) : findObj K C od name = some (.bind g a) := by
  obtain ⟨cd, hc⟩ := (Option.isSome_iff_exists.mp hc)
  unfold findObj
  rw [hc, Option.bind_some, hav, Option.bind_some]
  simp [hg, ht]
theorem class_exc {od : Option Obj} {Q : Option Value → Shared → Prop} (ga : findIn K (.ref D) "__getattribute__" = some (some (.builtin "BaseException.__getattribute__"))) (gt : findIn K (.ref D) "__getattr__" = some none) (hsb : subIn K (.ref D) (.type "BaseException") = some true)
    (hdt : hasDictIn K D = true) (hav : findIn K (.ref D) "__class__" = some (some (.builtin "object.__class__")))
    (hnn : specialIn K (.builtin "object.__class__") "__get__" = some (some (.builtin "getset_descriptor.__get__"))) (hta : takesIn K (.builtin "object.__class__") = some true) (hmr : mroIn K D (.type "object") = some true)
    (X : K.In s.heap) (I : InstAt s.heap x ox D od) (h : Q (some (.ref D)) { s with toks := s.toks + 1 }) : wpAny (model prog w) A (getAttr? (.ref x) "__class__") Q E s := by
  have hfo : findObj K D od "__class__" = some (.bind (.builtin "getset_descriptor.__get__") (.builtin "object.__class__")) := find_data (by obtain ⟨cd, hc, _⟩ := any_some hdt; rw [hc]; rfl) hav hnn hta
  obtain ⟨hp, g, d, tn, os⟩ := s
  have la := I.type (M := model prog w)
  have lb := looks_findIn (M := model prog w) X ga
  have lc := looks_findIn (M := model prog w) X gt
  have ld := looks_find (M := model prog w) X I hfo
  have sub : Looks (model prog w) hp (isInstance (.ref x) (.type "BaseException")) true := la.andThen (looks_subIn X hsb)
  have na0 : (false && onTheHeap (Value.builtin "BaseException.__getattribute__")) = false := rfl
  have nc2 : (Value.builtin "BaseException.__getattribute__" == Value.builtin "object.__getattribute__") = false := by decide +kernel
  have nb1 : (onTheHeap (Value.ref D) && Value.builtin "BaseException.__getattribute__" == Value.builtin "object.__getattribute__") = false := by rw [nc2]; rfl
  (unfold getAttr?)
  (unfold getAttrBy?)
  (unfold getAttrBy)
  refine wpAny_bind (wpAny_mkText (wpAny_bind (wpAny_attempt (wpAny_holding (wpAny_bind (la.at (wpAny_bind (lb.at ?_))))))))
  (show wpAny _ _ (if (onTheHeap (Value.ref D) && Value.builtin "BaseException.__getattribute__" == Value.builtin "object.__getattribute__") = true then _ else _) _ _ _)
  rw [nb1, if_neg Bool.false_ne_true]
  (unfold getAttrByItsOwn)
  (unfold hookBefore)
  refine wpAny_bind ?_
  (rw [if_pos (show onTheHeap (Value.ref D) = true from rfl)])
  refine lc.at ?_
  (refine wpAny_bind (wpAny_attempt (wpAny_holding ?_)))
  unfold callGetattribute
  rw [na0, if_neg Bool.false_ne_true]
  unfold boundAndCalled
  (rw [PySem.F.excAttr_ValueError.ga.bind (.ref x)])
  (refine wpAny_bind (wpAny_pure ?_))
  show wpAny _ _ (call (.builtin "BaseException.__getattribute__") [.ref x, .str "__class__" tn]) _ _ _
  (refine wpAny_call (codeAny_call_builtin PySem.F.excAttr_ValueError.ga.plain PySem.F.entry_bexc_ga ?_))
  refine @check_slot (model prog w) _ _ ⟨hp, g, d, tn + 1, os⟩ "BaseException.__getattribute__" "BaseException" "__getattribute__" (.ref x) [.str "__class__" tn] [] _ (by decide +kernel) (by decide +kernel) sub (PySem.F.args_bexc_ga (.ref x) (.str "__class__" tn)) ?_
  (unfold Builtin.«object.__getattribute__»)
  refine wpAny_bind (wpAny_of_eq (a := ((Value.ref x : Value), [Value.str "__class__" tn])) (by first | rfl | (simp only [slotArgs]; rfl)) ?_)
  refine wpAny_bind (wpAny_pure (wpAny_bind (la.at (wpAny_bind (ld.at ?_)))))
  (show wpAny _ _ (holding [Value.builtin "object.__class__"] (call (.builtin "getset_descriptor.__get__") [.builtin "object.__class__", .ref x, .ref D]) >>= ret) _ _ _)
  refine wpAny_bind (wpAny_holding (wpAny_call (class_get (s := ⟨hp, g, d, tn + 1, os⟩) (ox := ox) (od := od) X I hmr ?_)))
  refine wpAny_pure ?_
  (show wpAny _ _ (handedOut (.ref D)) _ _ _)
  (rw [handedOut_of (v := .ref D) rfl])
  first
    | (exact wpAny_pure (wpAny_pure h))
    | exact wpAny_pure h
    | (exact wpAny_pure (wpAny_bind (wpAny_pure (wpAny_pure h))))
theorem kit_exc {od : Option Obj} (ga : findIn K (.ref D) "__getattribute__" = some (some (.builtin "BaseException.__getattribute__"))) (gt : findIn K (.ref D) "__getattr__" = some none) (hsb : subIn K (.ref D) (.type "BaseException") = some true) (hdt : hasDictIn K D = true) (hav : findIn K (.ref D) "__class__" = some (some (.builtin "object.__class__")))
    (hnn : specialIn K (.builtin "object.__class__") "__get__" = some (some (.builtin "getset_descriptor.__get__"))) (hta : takesIn K (.builtin "object.__class__") = some true) (hmr : mroIn K D (.type "object") = some true) :
    KitX K (.ref x) (.ref D) (fun h => InstAt h x ox D od) where
  ty := fun _ _ _ I => I.type
  it := fun _ _ X _ => by
    obtain ⟨cd1, hcd1, _⟩ := any_some hdt
    unfold clsIn at hcd1
    split at hcd1
    · rename_i c1 d1 cd2 sl1 hob
      intro A' Q' E' s' k q
      unfold isType loadHead
      exact wpAny_bind (wpAny_loadPart (k _ _ (X _ _ hob)) (wpAny_pure q))
    · cases hcd1
  ne := fun hp2 tp d2 its m2 sl X htp => by
    obtain ⟨cd1, hcd1, _⟩ := any_some hdt
    (refine Bool.eq_false_iff.mpr fun q => ?_)
    have e : D = tp := (Value.ref.inj (beq_iff_eq.mp q))
    subst e
    unfold clsIn at hcd1
    split at hcd1
    · rename_i c1 d1 cd2 sl1 hob
      have z := (X _ _ hob).symm.trans htp
      cases z
    · cases hcd1
  ca := fun X I k => class_exc ga gt hsb hdt hav hnn hta hmr X I k
end
end KpW
namespace Kp
open PySem PySem.Spec PyProof.Rows L2
/-- isinstance(e, c) of a kept error e -/
def rIsK (K : PySem.W.Frag) (D : Addr) : List V → Hp → VK → Prop := fun xs H Q => ∃ (a : Addr) (d : Option Addr) (c : V) (cv : Value) (b : Bool), xs = [.ref a, c] ∧ H a = some (ExK (.ref D) d a) ∧ (d ≠ none → ∃ dx fs, d = some dx ∧ H dx = some (.xd fs)) ∧ (∀ u, RelV c u → u = cv) ∧ PySem.W.kitOne K (.ref D) cv = some b ∧ Q (.bl b) H
theorem call_isK {X : Cx} {D : Addr} (C : ExcC X.K D) : CallR X (.builtin "isinstance") (rIsK X.K D) := by
  intro pn s1 σ1 H xs us Q I r h
  obtain ⟨a, d, c, cv, b, rfl, ha, hd, hcv, e, q⟩ := h
  cases r with
  | cons rx rr =>
    cases rr with
    | cons rt rr =>
      cases rr
      cases rx
      have ec := hcv _ rt
      subst ec
      obtain ⟨oe, vs, hget, hz, hv⟩ := (show ObjOk X.prog X.w H s1.heap a (ExK (.ref D) d a) from I.hok a _ ha).1
      obtain ⟨od, J⟩ : ∃ od, PySem.W.InstAt s1.heap a oe D od := by
        obtain ⟨oc, odd, oda, osl⟩ := oe
        obtain ⟨h1, h2⟩ := hz
        dsimp only at h1 h2 hv
        subst h1 h2 hv
        cases odd with
        | none => exact ⟨none, hget, rfl, rfl, trivial⟩
        | some dx =>
          obtain ⟨dx2, fs, e2, hx⟩ := hd (fun z => nomatch z)
          cases e2
          obtain ⟨mA, ⟨ob, es, ep, e3, c3⟩, r3⟩ := (show ∃ mA, s1.heap.Ns1 dx mA ∧ ∀ f, RelO (fs.lookup f) (mA f) from I.hok dx _ hx)
          exact ⟨some ob, hget, rfl, rfl, e3⟩
      exact PySem.W.kia_one (KpW.kit_exc C.hg C.hk C.hs C.hd C.ha C.hn C.ht C.hm) I.kIn J e (fun z => nomatch z) fun tk => ⟨.bl b, H, I.kept (t' := tk) fun _ _ z => z, rfl, q⟩
end Kp


namespace Kp
open PySem PySem.Spec PyProof.Rows L2
/-! ### a kept error's field -/
def tXk (C : Addr) (f : Str) (te : TE) : TE := fun σ H Q => te σ H fun x H1 => ∃ (a dd : Addr) (fs : List (Str × V)) (v : V), x = .ref a ∧ H1 a = some (ExK (.ref C) (some dd) a) ∧ H1 dd = some (.xd fs) ∧ fs.lookup f = some v ∧ Q v H1
theorem pe_xk {X : Cx} {C : Addr} {e : Expr} {te : TE} {pos : Pos} {n : Str} (T : XfC X.K C) (hno : PySem.W.findIn X.K (.ref C) n = some none) (he : PE X e te) (hb : attributeBase e n X.env (eval e X.env) = eval e X.env := by rfl) : PE X (.Attribute e n pos) (tXk C n te) := by
  refine ⟨fun pn s σ H Q I hq => attr_of hb (thn (he.run pn s σ H _ I hq) fun u s1 hh => ?_)⟩
  obtain ⟨x, H1, I1, rx, a, dd, fs, v, rfl, ha, hdd, hl, q⟩ := hh
  cases (show u = Value.ref a from rx)
  obtain ⟨oe, vs, hget, hz, hv⟩ := (show ObjOk X.prog X.w H1 s1.heap a (ExK (.ref C) (some dd) a) from I1.hok a _ ha).1
  obtain ⟨mA, hns, hr⟩ := (show ∃ mA, s1.heap.Ns1 dd mA ∧ ∀ f, RelO (fs.lookup f) (mA f) from I1.hok dd _ hdd)
  obtain ⟨od, ho, hk⟩ := lookIn_ns hns
  obtain ⟨w, hw, rw'⟩ := RelO.some_of (v := v) (o := mA n) (by rw [← hl]; exact hr n)
  exact HandSPX.exc_get I1.kIn ⟨hget, hz.1, by unfold PySem.W.notCls; rw [hv] <;> rfl, by rw [hz.2]; exact ho⟩ T.ga T.gg T.exC (PySem.W.findObj_own T.hdC hno rfl (by rw [hk, hw])) (handed_of rw') ⟨v, H1, I1.tok _, rw', q⟩
end Kp


namespace Kp
open PySem PySem.Spec PyProof.Rows L2
/-! ### a kept error, as data sees it -/
theorem lookup_dd {K : PySem.W.Frag} {H : Hp} {f : Str} {d : PyData} : ∀ {fs : List (Str × V)} {ds : List (Str × PyData)}, FdA K H fs ds → ds.lookup f = some d → ∃ v, fs.lookup f = some v ∧ Dd K H v d
  | [], [], _, e => by cases e
  | [], _ :: _, h, _ => by cases h.1
  | _ :: _, [], h, _ => by cases h.1
  | (k, v) :: fs, (k2, d2) :: ds, h, e => by
    have h1 := h.1
    have h2 := h.2
    rw [List.map_cons, List.map_cons] at h1 h2
    obtain ⟨e1, e2⟩ := List.cons.inj h1
    cases h2 with
    | cons a t =>
      have e1 : k = k2 := e1
      subst e1
      rw [List.lookup_cons] at e ⊢
      cases q : (f == k) with
      | true =>
        rw [q] at e
        cases e
        exact ⟨v, rfl, a⟩
      | false =>
        rw [q] at e
        exact lookup_dd ⟨e2, t⟩ e
theorem XdO.some_of {fs : List (Str × V)} {d : Option Addr} (w : Wl) (h : XdO w.g fs d) (z : d ≠ none) : ∃ dx fs, d = some dx ∧ w.h dx = some (.xd fs) := by
  cases d with
  | some d => exact ⟨d, fs, rfl, w.sub _ _ h⟩
  | none => exact absurd rfl z
section
variable {X : Cx} {w0 : Wl} {ss : SS} {R : AV → Prop}
/-- e.f -/
theorem k_errf {C : Addr} {e : Expr} {pos : Pos} {n : Str} (T : XfC X.K C) (hno : PySem.W.findIn X.K (.ref C) n = some none) (h : KE X w0 e ss fun a => ∃ ds d, a = .err C ds ∧ ds.lookup n = some d ∧ R (.dat d)) (hb : attributeBase e n X.env (eval e X.env) = eval e X.env := by rfl) : KE X w0 (.Attribute e n pos) ss R :=
  PE.imp (pe_xk T hno h hb) fun σ H Q ⟨w, ew, hs, q⟩ => ⟨w, ew, hs, fun v a w1 l1 hv hk => by
    obtain ⟨ds, d, rfl, hl, hr⟩ := hk
    obtain ⟨p, dd, fs, rfl, h1, h2, h3⟩ := hv
    obtain ⟨u, hu, hd⟩ := lookup_dd h3 hl
    obtain ⟨dd, rfl⟩ : ∃ d, dd = some d := by
      cases dd with
      | some d => exact ⟨d, rfl⟩
      | none =>
        have h2 : fs = [] := h2
        subst h2
        cases hu
    exact ⟨p, dd, fs, u, rfl, w1.sub _ _ h1, w1.sub _ _ h2, hu, q u (.dat d) w1 l1 hd hr⟩⟩
/-- isinstance(e, X), X an own class -/
theorem k_isE {D C : Addr} {b : Bool} {e : Expr} {x : Str} {p p2 pos : Pos} (T : ExcC X.K D) (hg : Gl X "isinstance") (hm : X.mg "isinstance" = none) (hg2 : Gl X x) (hm2 : X.mg x = some (.ref C)) (hk : PySem.W.kitOne X.K (.ref D) (.ref C) = some b)
    (h : KE X w0 e ss fun a => ∃ ds, a = .err D ds ∧ R (.dat (.bool b))) (hdb : (x == ("__debug__" : Str)) = false := by decide)
    (he : starEach [e, .Name x p2] X.env = (false, eval e X.env) :: starEach [.Name x p2] X.env := by rfl) (hpl : (backTo pos (starEach [.Name x p2] X.env)).any (·.1) = false := by rfl)
    (he2 : starEach [.Name x p2] X.env = (false, eval (.Name x p2) X.env) :: starEach [] X.env := by rfl) : KE X w0 (.Call (.Name "isinstance" p) [e, .Name x p2] [] pos) ss R :=
  PE.imp (pe_callB (call_isK T) hg hm (by decide +kernel) (pa_cons h (pa_cons (pe_glob hg2 hm2 (v := .ref C) rfl hdb) pa_nil he2) he) (by decide) (by decide) he hpl) fun σ H Q ⟨w, ew, hs, q⟩ => ⟨w, ew, hs, fun v a w1 l1 hv hkk => by
    obtain ⟨ds, rfl, hr⟩ := hkk
    obtain ⟨q0, dd, fs, rfl, h1, h2, h3⟩ := hv
    exact ⟨q0, dd, .ref C, .ref C, b, rfl, w1.sub _ _ h1, fun z => h2.some_of w1 z, fun u r => by cases r; rfl, hk, q (.bl b) (.dat (.bool b)) w1 l1 (.bl b) hr⟩⟩
/-- isinstance(e, T), T a built-in class -/
theorem k_isT {D : Addr} {T0 : String} {b : Bool} {e : Expr} {x : Str} {p p2 pos : Pos} (T : ExcC X.K D) (hg : Gl X "isinstance") (hm : X.mg "isinstance" = none) (hg2 : Gl X x) (hm2 : X.mg x = none) (hv2 : bootBuiltins x = some (.type T0)) (hk : PySem.W.kitOne X.K (.ref D) (.type T0) = some b)
    (h : KE X w0 e ss fun a => ∃ ds, a = .err D ds ∧ R (.dat (.bool b))) (hn : x ≠ "__name__" := by decide) (hdb : (x == ("__debug__" : Str)) = false := by decide)
    (he : starEach [e, .Name x p2] X.env = (false, eval e X.env) :: starEach [.Name x p2] X.env := by rfl) (hpl : (backTo pos (starEach [.Name x p2] X.env)).any (·.1) = false := by rfl)
    (he2 : starEach [.Name x p2] X.env = (false, eval (.Name x p2) X.env) :: starEach [] X.env := by rfl) : KE X w0 (.Call (.Name "isinstance" p) [e, .Name x p2] [] pos) ss R :=
  PE.imp (pe_callB (call_isK T) hg hm (by decide +kernel) (pa_cons h (pa_cons (pe_bltn hg2 hm2 hv2 (v := .ty T0) rfl hn hdb) pa_nil he2) he) (by decide) (by decide) he hpl) fun σ H Q ⟨w, ew, hs, q⟩ => ⟨w, ew, hs, fun v a w1 l1 hv hkk => by
    obtain ⟨ds, rfl, hr⟩ := hkk
    obtain ⟨q0, dd, fs, rfl, h1, h2, h3⟩ := hv
    exact ⟨q0, dd, .ty T0, .type T0, b, rfl, w1.sub _ _ h1, fun z => h2.some_of w1 z, fun u r => by cases r; rfl, hk, q (.bl b) (.dat (.bool b)) w1 l1 (.bl b) hr⟩⟩
end
end Kp


namespace Kp
open PySem PySem.Spec PyProof.Rows L2
/-! ### try: .. except X as n: y = n -/
def noBuf (ss : SS) : Prop := ∀ (i : Nat) (ds : List PyData), ss[i]? ≠ some (some (AV.buf ds))
section
variable {K : PySem.W.Frag} {w0 w w1 w2 : Wl} {σ : L2.St} {ss : SS}
theorem Sl.re (h : Sl K w0 w σ ss) (nb : noBuf ss) : Sl K w.bare w σ ss := ⟨Le.bare w, h.len, h.at_, fun i j ds es v _ e => absurd e (nb i ds), fun i ds p e => absurd e (nb i ds), SOk.bare, fun i ds p e => absurd e (nb i ds)⟩
theorem Sl.back {σ1 : L2.St} {ss1 : SS} (hs : Sl K w0 w1 σ1 ss1) (h : Sl K w1.bare w σ ss) : Sl K w0 w σ ss := ⟨hs.le.trans h.le.unbare, h.len, h.at_, h.ap, fun i ds p e1 e2 => exFree hs.le.h (h.fr i ds p e1 e2), hs.so.mono h.le.unbare, fun i ds p e1 e2 b as m => by
  have z : w1.h p = none := h.fr i ds p e1 e2
  obtain ⟨_, _, vs, q, _⟩ := hs.so.own p b as m
  rw [z] at q
  cases q⟩
end
/-- what is wanted of an error within a try -/
def outW (K : PySem.W.Frag) (w0 : Wl) (ss : SS) (RX : Addr → List (Str × PyData) → Prop) (W : WX) : Prop :=
  ∀ (σ : L2.St) (C d : Addr) (fs : List (Str × V)) (ds : List (Str × PyData)) (w' : Wl), Sl K w0 w' σ ss → w0.h d = none → w'.h d = some (.xd fs) → w'.g d = none → FdA K w'.g fs ds → RX C ds → W (.ref C) (some d) σ w'.h
section
variable {X : Cx} {w0 : Wl} {ss : SS}
/-- a def that may raise, called within a try -/
theorem k_callW {C : List AV → (AV → Prop) → (Addr → List (Str × PyData) → Prop) → Prop} {k : Nat} {f : Addr} {fd : FuncData} {ps : List Str} {x : Str} {p pos : Pos} {e : Expr} {es : List Expr} {R : AV → Prop} {RX : Addr → List (Str × PyData) → Prop} {W : WX}
    (F : FnOk X.prog X.w X.K X.mg X.base (L2.CX X.prog X.w) k f fd ps (spX X.K C)) (hr : Room k X.A) (hg : Gl X x) (hm : X.mg x = some (.ref f)) (hk : PySem.W.keepIn X.K (.ref f) = true) (hb : Binds X.K fd ps []) (tk : Takes X W) (out : outW X.K w0 ss RX W)
    (h : KA X w0 (e :: es) ss fun as => as.all AV.plain = true ∧ C as R RX) (hdb : (x == ("__debug__" : Str)) = false := by decide) (he : starEach (e :: es) X.env = (false, eval e X.env) :: starEach es X.env := by rfl) (hpl : (backTo pos (starEach es X.env)).any (·.1) = false := by rfl) :
    KE X w0 (.Call (.Name x p) (e :: es) [] pos) ss R :=
  PE.imp (pe_callS (E := WE W) F hr hg hm hk hb (fun σ => passAt tk σ) h hdb he hpl) fun σ H Q ⟨w, ew, hs, q⟩ => ⟨w, ew, hs, fun vs as w1 l1 hvs hk => by
    show spX X.K C vs w1.h Q (WE W σ)
    exact ⟨w1, as, R, RX, rfl, hvs, hk, fun v2 a2 w2 l2 h2 r2 => q v2 a2 w2 (l1.trans l2) h2 r2, fun C d fs ds w' l2 h1 h2 h3 h4 r => out σ C d fs ds w' (hs.mono (l1.trans l2)) (exFree (hs.le.trans l1).h h1) h2 h3 h4 r⟩⟩
theorem ks_tryK {x n y : Str} {c : Addr} {i j : Nat} {body : List Stmt} {N : AN} {RX : Addr → List (Str × PyData) → Prop} {np p1 p2 p3 pos pos' : Pos} (hs : X.stack = X.env :: X.outer) (hf : X.env.frame = some X.env.locals) (hex : X.ex = []) (hN : X.N.Nodup) (hi : X.N[i]? = some n) (hln : X.env.kindOf n = some .local)
    (hc : Names X x (.ref c)) (hj : X.N[j]? = some y) (hij : i ≠ j) (hl : i < ss.length) (nb : noBuf ss) (hvn : Vis X.env.scope n) (hly : Loc X.env.scope y) (hdn : (n == ("__debug__" : Str)) = false) (hcn : (n == ("__classdict__" : Str)) = false)
    (hb : ∀ (w1 : Wl) (W : WX) (pn : List (Addr × Obj)) (xe : Value → Shared → Prop), Takes (X.tr pn xe) W → PassesOwn (model X.prog X.w) X.A X.env xe → outW X.K w1 ss RX W → KSs (X.tr pn xe) w1 body ss N)
    (hx : ∀ C ds, RX C ds → PySem.W.exmOne X.K (.ref C) (.ref c) = some true ∧ N.nx ((ss.set i none).set j (some (.err C ds))))
    (hsw : ∀ (a : Addr) (pn : List (Addr × Obj)), swapsWith (.Name n p2) (some (.Name y p1)) p3.line (X.suite a pn).env = pure false := by intro _ _; rfl) (hfy : X.fn y = true ∨ X.env.scope.names.lookup y = some .local := by first | exact .inl rfl | exact .inr rfl) :
    KS X w0 (.Try body [.ExceptHandler (some (.Name x np)) (some n) [.Assign [.Name y p1] (.Name n p2) p3] pos'] [] [] pos) ss N := by
  refine PS.imp (ps_keep (tb := fun W D σ H => (∃ w1 : Wl, outW X.K w1 ss RX W ∧ tsOf X.K w1 ss N D σ H)) (ts := fun a cls d => tAsg (tVar i) (gName j)) (Wout := fun _ _ _ _ => False) hs hf hex hN hi hln hc takes0
    (fun W pn xe tk po => ⟨fun pins s σ H D I ⟨w1, o, h⟩ => (hb w1 W pn xe tk po o).run pins s σ H D I h⟩)
    (fun a oe cls d pn hz hd => pss_one (ps_set (i := j) hN hj hly (pe_var hi hvn hdn hcn) (hsw a _) hfy))) fun D σ H ⟨w, ew, hsl, d⟩ => ?_
  refine ⟨w.bare, fun σ1 C dd fs ds w' hs1 h0 h1 h2 h3 r => ?_, w, ew, hsl.re nb, ⟨fun σ' ss' w' e h k => d.nx σ' ss' w' e (hsl.back h) k, fun v a w' e l h k => d.rt v a w' e (hsl.le.trans l.unbare) h k, fun σ' ss' w' e h k => d.bk σ' ss' w' e (hsl.back h) k, fun σ' ss' w' e h k => d.ct σ' ss' w' e (hsl.back h) k⟩⟩
  obtain ⟨hx1, hx2⟩ := hx C ds r
  refine ⟨true, hx1, fun _ a ha => ?_, fun q => nomatch q⟩
  have hil : i < σ1.length := by rw [hs1.len]; exact hl
  refine ⟨.ref a, by rw [List.getElem?_set_self hil], ?_⟩
  have hga : w'.g a = none := w'.gfree ha
  have nad : a ≠ dd := fun z => by
    rw [z, h1] at ha
    cases ha
  have ex1 : Ex w'.g (upd (upd w'.g dd (.xd fs)) a (ExK (.ref C) (some dd) a)) := (Ex.new h2).trans (Ex.new (by rw [upd_ne nad]; exact hga))
  have sub : Ex (upd (upd w'.g dd (.xd fs)) a (ExK (.ref C) (some dd) a)) (upd w'.h a (ExK (.ref C) (some dd) a)) := fun b o e => by
    by_cases z : b = a
    · subst z
      rw [upd_same] at e ⊢
      exact e
    · rw [upd_ne z] at e ⊢
      by_cases z2 : b = dd
      · subst z2
        rw [upd_same] at e
        rw [← e]
        exact h1
      · rw [upd_ne z2] at e
        exact w'.sub b o e
  have le : Le w.bare ⟨_, _, sub, []⟩ := ⟨hs1.le.g.trans ex1, hs1.le.h.trans (Ex.new ha), fun b b1 b2 => by
    have z : b ≠ a := fun z => b1 (exFree hs1.le.h (by rw [z]; exact ha))
    have z2 : b ≠ dd := fun z => b1 (by rw [z]; exact h0)
    show upd (upd w'.g dd (.xd fs)) a _ b = none
    rw [upd_ne z, upd_ne z2]
    exact hs1.le.hid b b1 b2⟩
  have S0 : Sl X.K w.bare ⟨_, _, sub, []⟩ σ1 ss := ⟨le, hs1.len, fun k av e => by
    obtain ⟨v, e1, q⟩ := hs1.at_ k av e
    refine ⟨v, e1, Av.monoG ex1 ?_ q⟩
    cases av with
    | buf es => exact absurd e (nb k es)
    | _ => rfl, fun i j ds es v _ e => absurd e (nb i ds), fun i ds p e => absurd e (nb i ds), SOk.bare, fun i ds p e => absurd e (nb i ds)⟩
  have S1 : Sl X.K w.bare ⟨_, _, sub, []⟩ (σ1.set i none) (ss.set i none) := S0.wipe [i]
  have S2 := S1.set (v := .ref a) (a := .err C ds) j rfl ⟨a, some dd, fs, rfl, upd_same, (upd_ne (Ne.symm nad)).trans upd_same, h3.mono ex1⟩
  have eσ : ((σ1.set i (some (.ref a))).set j (some (.ref a))).set i none = (σ1.set i none).set j (some (.ref a)) := by
    rw [List.set_comm _ _ hij, List.set_set, List.set_comm _ _ (Ne.symm hij)]
  show D.nx (((σ1.set i (some (.ref a))).set j (some (.ref a))).set i none) (upd w'.h a (ExK (.ref C) (some dd) a))
  rw [eσ]
  exact d.nx _ _ ⟨_, _, sub, []⟩ le.g (hsl.back S2) hx2
end
end Kp


namespace Kp
open PySem PySem.Spec PyProof.Rows L2
/-! ### a def's own lists within lists: the store -/
def Wl.at (w : Wl) (st : Store) : Wl := ⟨w.g, w.h, w.sub, st⟩
theorem Le.unat {w w' : Wl} {st : Store} (l : Le (w.at st) w') : Le w w' := ⟨l.g, l.h, l.hid⟩
/-- nothing stands in the store by this address -/
def Fresh (st : Store) (p : Addr) : Prop := ∀ x ∈ st, x.1 ≠ p
mutual
/-- what the store spells -/
inductive Spl (st : Store) : AV → PyData → Prop
  | dat (d : PyData) : Spl st (.dat d) d
  | lst {p : Addr} {as : List AV} {ds : List PyData} : (p, Ck.lst, as) ∈ st → SplA st as ds → Spl st (.at_ p) (.list ds)
  | tup {p : Addr} {as : List AV} {ds : List PyData} : (p, Ck.tup, as) ∈ st → SplA st as ds → Spl st (.at_ p) (.tuple ds)
inductive SplA (st : Store) : List AV → List PyData → Prop
  | nil : SplA st [] []
  | cons {a : AV} {as : List AV} {d : PyData} {ds : List PyData} : Spl st a d → SplA st as ds → SplA st (a :: as) (d :: ds)
end
theorem SplA.dats {st : Store} : ∀ {ds : List PyData}, SplA st (ds.map .dat) ds
  | [] => .nil
  | d :: _ => .cons (.dat d) SplA.dats
section
variable {K : PySem.W.Frag} {w0 w w' : Wl} {st : Store} {σ : L2.St} {ss ss' : SS}
theorem SOk.key (h : SOk K (w0.at st) w) {p : Addr} {b : Ck} {as : List AV} (m : (p, b, as) ∈ st) : w0.h p = none ∧ as.all AV.plain = true ∧ ∃ vs, w.h p = some (hol b vs) ∧ w.g p = none ∧ AvA K w vs as := h.own p b as m
/-- all that the store holds is leant on -/
def frzG (w : Wl) (st : Store) : Hp := fun b => if b ∈ st.map (·.1) then w.h b else w.g b
theorem frzG_in {b : Addr} (h : b ∈ st.map (·.1)) : frzG w st b = w.h b := if_pos h
theorem frzG_out {b : Addr} (h : b ∉ st.map (·.1)) : frzG w st b = w.g b := if_neg h
theorem frz_sub : Ex (frzG w st) w.h := fun b u e => by
  by_cases z : b ∈ st.map (·.1)
  · rw [frzG_in z] at e
    exact e
  · rw [frzG_out z] at e
    exact w.sub b u e
def Wl.frz (w : Wl) (st : Store) : Wl := ⟨frzG w st, w.h, frz_sub, []⟩
theorem mem_key {b : Addr} (h : b ∈ st.map (·.1)) : ∃ t as, (b, t, as) ∈ st := by
  obtain ⟨⟨p, t, as⟩, m, e⟩ := List.mem_map.mp h
  cases e
  exact ⟨t, as, m⟩
theorem SOk.frz_g (h : SOk K (w0.at st) w) : Ex w.g (frzG w st) := fun b u e => by
  by_cases z : b ∈ st.map (·.1)
  · obtain ⟨t, as, m⟩ := mem_key z
    obtain ⟨_, _, vs, _, q, _⟩ := h.key m
    rw [q] at e
    cases e
  · rw [frzG_out z]
    exact e
mutual
theorem Spl.dd (h : SOk K (w0.at st) w) : ∀ {a : AV} {d : PyData} {v : V}, Spl st a d → Av K w v a → Dd K (frzG w st) v d
  | _, _, _, .dat d, q => Dd.mono h.frz_g q
  | _, _, _, .lst m t, q => by
    obtain ⟨_, _, vs, h1, _, h3⟩ := h.key m
    cases q
    exact .lst ((frzG_in (List.mem_map_of_mem m)).trans h1) (SplA.dd h t h3)
  | _, _, _, .tup m t, q => by
    obtain ⟨_, _, vs, h1, _, h3⟩ := h.key m
    cases q
    exact .tup (.inl (.inl ((frzG_in (List.mem_map_of_mem m)).trans h1))) (SplA.dd h t h3)
theorem SplA.dd (h : SOk K (w0.at st) w) : ∀ {as : List AV} {ds : List PyData} {vs : List V}, SplA st as ds → AvA K w vs as → DdA K (frzG w st) vs ds
  | _, _, _, .nil, .nil => .nil
  | _, _, _, .cons a t, .cons x y => .cons (Spl.dd h a x) (SplA.dd h t y)
end
/-- the slots with what they spell in their stead -/
def Thaw (st : Store) (ss ss' : SS) : Prop := ss.length = ss'.length ∧ ∀ (i : Nat) (a' : AV), ss'[i]? = some (some a') → ss[i]? = some (some a') ∨ ∃ a d, ss[i]? = some (some a) ∧ a' = .dat d ∧ Spl st a d
theorem Thaw.refl : Thaw st ss ss := ⟨rfl, fun _ _ h => .inl h⟩
theorem Thaw.set {i : Nat} {a : AV} {d : PyData} (h : Thaw st ss ss') (hi : ss[i]? = some (some a)) (hs : Spl st a d) : Thaw st ss (ss'.set i (some (.dat d))) := ⟨by rw [List.length_set]; exact h.1, fun j b e => by
  by_cases z : i = j
  · subst z
    rw [List.getElem?_set_self (set_lt e)] at e
    cases e
    exact .inr ⟨a, d, hi, rfl, hs⟩
  · rw [List.getElem?_set_ne z] at e
    exact h.2 j b e⟩
theorem Sl.thaw (h : Sl K (w0.at st) w σ ss) (T : Thaw st ss ss') : Sl K w0.bare (w.frz st) σ ss' := by
  have bf : ∀ {i : Nat} {ds : List PyData}, ss'[i]? = some (some (AV.buf ds)) → ss[i]? = some (some (AV.buf ds)) := fun {i ds} e => (T.2 i _ e).elim id fun ⟨_, _, _, q, _⟩ => nomatch q
  refine ⟨⟨h.le.g.trans h.so.frz_g, h.le.h, fun b h1 h2 => ?_⟩, h.len.trans T.1, fun i a e => ?_, fun i j ds es v hij e1 e2 e3 => h.ap i j ds es v hij (bf e1) (bf e2) e3, fun i ds p e1 e2 => h.fr i ds p (bf e1) e2, SOk.bare, fun i ds p e1 e2 b as m => absurd m List.not_mem_nil⟩
  · have z : b ∉ st.map (·.1) := fun z => by
      obtain ⟨t, as, m⟩ := mem_key z
      exact h1 (h.so.key m).1
    exact (frzG_out z).trans (h.le.hid b h1 h2)
  · rcases T.2 i a e with q | ⟨b, d, q, rfl, sp⟩
    · obtain ⟨v, h1, h2⟩ := h.at_ i a q
      refine ⟨v, h1, ?_⟩
      by_cases hp : a.plain = true
      · exact Av.monoG h.so.frz_g hp h2
      · cases a with
        | buf ds =>
          obtain ⟨p, vs, rfl, g1, g2, g3⟩ := h2
          have z : p ∉ st.map (·.1) := fun z => by
            obtain ⟨t, as, m⟩ := mem_key z
            exact h.sd i ds p q h1 t as m
          exact ⟨p, vs, rfl, g1, (frzG_out z).trans g2, g3.mono h.so.frz_g⟩
        | _ => exact absurd rfl hp
    · obtain ⟨v, h1, h2⟩ := h.at_ i b q
      exact ⟨v, h1, Spl.dd h.so sp h2⟩
/-- data that lean on nothing -/
def immD : PyData → Bool
  | .none => true
  | .bool _ => true
  | .int _ => true
  | .str _ => true
  | _ => false
theorem Dd.imm {H H' : Hp} {v : V} {d : PyData} (hi : immD d = true) (h : Dd K H v d) : Dd K H' v d := by
  cases h with
  | non => exact .non
  | bl b => exact .bl b
  | int i => exact .int i
  | str x => exact .str x
  | _ => cases hi
theorem DdA.imm {H H' : Hp} : ∀ {vs : List V} {ds : List PyData}, ds.all immD = true → DdA K H vs ds → DdA K H' vs ds
  | _, _, _, .nil => .nil
  | _, _, hi, .cons a t => by
    rw [List.all_cons, Bool.and_eq_true] at hi
    exact .cons (a.imm hi.1) (DdA.imm hi.2 t)
/-- back from a frozen world -/
def Wl.thw (w w' : Wl) (e : Ex w.h w'.h) : Wl := ⟨w.g, w'.h, w.sub.trans e, []⟩
theorem Le.thw {w w' : Wl} (e : Ex w.h w'.h) : Le w (w.thw w' e) := ⟨Ex.refl _, e, fun _ _ h => h⟩
end
section
variable {X : Cx} {w0 : Wl} {ss ss' : SS} {st : Store}
/-- read with all of the store frozen: what comes leans on nothing -/
theorem k_tmp {e : Expr} {R : AV → Prop} (T : Thaw st ss ss') (h : KE X w0.bare e ss' fun a => onDat a fun d => immD d = true ∧ R (.dat d)) : KE X (w0.at st) e ss R :=
  PE.imp h fun σ H Q ⟨w, ew, hs, q⟩ => ⟨w.frz st, ew, hs.thaw T, fun v a w' l ha hr => by
    obtain ⟨d, rfl, hi, r⟩ := hr.of
    exact q v (.dat d) (w.thw w' l.h) (Le.thw (w := w) l.h) (Dd.imm hi ha) r⟩
theorem kt_tmp {e : Expr} {R : Bool → Prop} (T : Thaw st ss ss') (h : KT X w0.bare e ss' R) : KT X (w0.at st) e ss R :=
  PT.imp h fun σ H Q ⟨w, ew, hs, q⟩ => ⟨w.frz st, ew, hs.thaw T, fun b w' l r => q b (w.thw w' l.h) (Le.thw (w := w) l.h) r⟩
theorem kn_tmp {e : Expr} {R : List PyData → Prop} (T : Thaw st ss ss') (h : KN X w0.bare e ss' fun ds => ds.all immD = true ∧ R ds) : KN X (w0.at st) e ss R :=
  PE.imp h fun σ H Q ⟨w, ew, hs, q⟩ => ⟨w.frz st, ew, hs.thaw T, fun p vs ds w' l hn h1 h2 hd hr => q p vs ds (w.thw w' l.h) (Le.thw (w := w) l.h) hn h1 (w.gfree hn) (hd.imm hr.1) hr.2⟩

/-! ### what changes the store -/
structure MN where
  nx : Store → SS → Prop
  rt : Store → AV → Prop := fun _ _ => False
  bk : Store → SS → Prop := fun _ _ => False
  ct : Store → SS → Prop := fun _ _ => False
structure EndsM (K : PySem.W.Frag) (w0 : Wl) (g0 : Hp) (N : MN) (D : Ends) : Prop where
  nx : ∀ σ' ss' st' w', Ex g0 w'.g → Sl K (w0.at st') w' σ' ss' → N.nx st' ss' → D.nx σ' w'.h
  rt : ∀ v a st' w', Ex g0 w'.g → Le w0 w' → SOk K (w0.at st') w' → Av K w' v a → N.rt st' a → D.rt v w'.h
  bk : ∀ σ' ss' st' w', Ex g0 w'.g → Sl K (w0.at st') w' σ' ss' → N.bk st' ss' → D.bk σ' w'.h
  ct : ∀ σ' ss' st' w', Ex g0 w'.g → Sl K (w0.at st') w' σ' ss' → N.ct st' ss' → D.ct σ' w'.h
theorem EndsM.mono {K : PySem.W.Frag} {g0 g1 : Hp} {N : MN} {D : Ends} (h : EndsM K w0 g0 N D) (e : Ex g0 g1) : EndsM K w0 g1 N D :=
  ⟨fun σ' ss' st' w' x => h.nx σ' ss' st' w' (e.trans x), fun v a st' w' x => h.rt v a st' w' (e.trans x), fun σ' ss' st' w' x => h.bk σ' ss' st' w' (e.trans x), fun σ' ss' st' w' x => h.ct σ' ss' st' w' (e.trans x)⟩
def tmOf (K : PySem.W.Frag) (w0 : Wl) (st : Store) (ss : SS) (N : MN) : TS := fun D σ H => ∃ w : Wl, w.h = H ∧ Sl K (w0.at st) w σ ss ∧ EndsM K w0 w.g N D
def tmeOf (K : PySem.W.Frag) (w0 : Wl) (st : Store) (ss : SS) (R : Store → AV → Prop) : TE := fun σ H Q => ∃ w : Wl, w.h = H ∧ Sl K (w0.at st) w σ ss ∧ ∀ v a st' w', Ex w.g w'.g → Sl K (w0.at st') w' σ ss → Av K w' v a → R st' a → Q v w'.h
def tmtOf (K : PySem.W.Frag) (w0 : Wl) (st : Store) (ss : SS) (R : Store → Bool → Prop) : TT := fun σ H Q => ∃ w : Wl, w.h = H ∧ Sl K (w0.at st) w σ ss ∧ ∀ b st' w', Ex w.g w'.g → Sl K (w0.at st') w' σ ss → R st' b → Q b w'.h
abbrev ME (X : Cx) (w0 : Wl) (e : Expr) (st : Store) (ss : SS) (R : Store → AV → Prop) : Prop := PE X e (tmeOf X.K w0 st ss R)
abbrev MT (X : Cx) (w0 : Wl) (e : Expr) (st : Store) (ss : SS) (R : Store → Bool → Prop) : Prop := PT X e (tmtOf X.K w0 st ss R)
abbrev MW (X : Cx) (w0 : Wl) (e : Expr) (st : Store) (ss : SS) (R : Store → Bool → Prop) : Prop := PW X e (tmtOf X.K w0 st ss R)
abbrev MS (X : Cx) (w0 : Wl) (s : Stmt) (st : Store) (ss : SS) (N : MN) : Prop := PS X s (tmOf X.K w0 st ss N)
abbrev MSs (X : Cx) (w0 : Wl) (s : List Stmt) (st : Store) (ss : SS) (N : MN) : Prop := PSs X s (tmOf X.K w0 st ss N)
def anMs (X : Cx) (w0 : Wl) (e : List Stmt) : TS := fun D σ H => ∃ st ss N, MSs X w0 e st ss N ∧ tmOf X.K w0 st ss N D σ H
def anMW (X : Cx) (w0 : Wl) (e : Expr) : TT := fun σ H Q => ∃ st ss R, MW X w0 e st ss R ∧ tmtOf X.K w0 st ss R σ H Q
theorem pss_anM {e : List Stmt} : PSs X e (anMs X w0 e) := ⟨fun pins s σ H Q I ⟨_, _, _, h, q⟩ => h.run pins s σ H Q I q⟩
theorem pw_anM {e : Expr} : PW X e (anMW X w0 e) := ⟨fun wh pins s σ H Q I ⟨_, _, _, h, q⟩ => h.run wh pins s σ H Q I q⟩
theorem m_cons {s : Stmt} {rest : List Stmt} {N : MN} (h : MS X w0 s st ss { N with nx := fun st' ss' => MSs X w0 rest st' ss' N }) : MSs X w0 (s :: rest) st ss N :=
  PSs.imp (pss_cons h (pss_anM (w0 := w0))) fun D σ H ⟨w, ew, hs, d⟩ => ⟨w, ew, hs, ⟨fun σ' ss' st' w' e hs' hk => ⟨st', ss', N, hk, w', rfl, hs', d.mono e⟩, d.rt, d.bk, d.ct⟩⟩
theorem m_one {s : Stmt} {N : MN} (h : MS X w0 s st ss N) : MSs X w0 [s] st ss N := pss_one h
/-- what leaves the store as it is -/
theorem m_lift {s : Stmt} {N : MN} (h : KS X (w0.at st) s ss { nx := N.nx st, rt := fun _ => False, bk := N.bk st, ct := N.ct st }) : MS X w0 s st ss N :=
  PS.imp h fun D σ H ⟨w, ew, hs, d⟩ => ⟨w, ew, hs, ⟨fun σ' ss' w' e hs' k => d.nx σ' ss' st w' e hs' k, fun _ _ _ _ _ _ k => k.elim, fun σ' ss' w' e hs' k => d.bk σ' ss' st w' e hs' k, fun σ' ss' w' e hs' k => d.ct σ' ss' st w' e hs' k⟩⟩
theorem m_if {c : Expr} {a b : List Stmt} {pos : Pos} {N : MN} (h : KT X (w0.at st) c ss fun t => iteP t (MSs X w0 a st ss N) (MSs X w0 b st ss N)) : MS X w0 (.If c a b pos) st ss N :=
  PS.imp (ps_if h (pss_anM (w0 := w0)) (pss_anM (w0 := w0))) fun D σ H ⟨w, ew, hs, d⟩ => ⟨w, ew, hs, fun t w1 l1 hk => by
    cases t
    · exact iteF ⟨st, ss, N, hk, w1, rfl, hs.mono l1, d.mono l1.g⟩
    · exact iteT ⟨st, ss, N, hk, w1, rfl, hs.mono l1, d.mono l1.g⟩⟩
theorem m_ifM {c : Expr} {a b : List Stmt} {pos : Pos} {N : MN} (h : MT X w0 c st ss fun st' t => iteP t (MSs X w0 a st' ss N) (MSs X w0 b st' ss N)) : MS X w0 (.If c a b pos) st ss N :=
  PS.imp (ps_if h (pss_anM (w0 := w0)) (pss_anM (w0 := w0))) fun D σ H ⟨w, ew, hs, d⟩ => ⟨w, ew, hs, fun t st' w1 e1 hs1 hk => by
    cases t
    · exact iteF ⟨st', ss, N, hk, w1, rfl, hs1, d.mono e1⟩
    · exact iteT ⟨st', ss, N, hk, w1, rfl, hs1, d.mono e1⟩⟩
theorem m_pass {pos : Pos} {N : MN} (h : N.nx st ss) : MS X w0 (.Pass pos) st ss N := PS.imp ps_pass fun D σ H ⟨w, ew, hs, d⟩ => by
  subst ew
  exact d.nx σ ss st w (Ex.refl _) hs h
theorem m_nil {N : MN} (h : N.nx st ss) : MSs X w0 [] st ss N := PSs.imp pss_nil fun D σ H ⟨w, ew, hs, d⟩ => by
  subst ew
  exact d.nx σ ss st w (Ex.refl _) hs h
theorem m_ret {e : Expr} {pos : Pos} {N : MN} (h : KE X (w0.at st) e ss fun a => N.rt st a) : MS X w0 (.Return (some e) pos) st ss N :=
  PS.imp (ps_ret h) fun D σ H ⟨w, ew, hs, d⟩ => ⟨w, ew, hs, fun v a w1 l1 hv hk => d.rt v a st w1 l1.g (hs.le.trans l1).unat (hs.so.mono l1) hv hk⟩
theorem me_lift {e : Expr} {R : Store → AV → Prop} (h : KE X (w0.at st) e ss (R st)) : ME X w0 e st ss R :=
  PE.imp h fun σ H Q ⟨w, ew, hs, q⟩ => ⟨w, ew, hs, fun v a w1 l1 hv hk => q v a st w1 l1.g (hs.mono l1) hv hk⟩
theorem mt_lift {e : Expr} {R : Store → Bool → Prop} (h : KT X (w0.at st) e ss (R st)) : MT X w0 e st ss R :=
  PT.imp h fun σ H Q ⟨w, ew, hs, q⟩ => ⟨w, ew, hs, fun b w1 l1 hk => q b st w1 l1.g (hs.mono l1) hk⟩
theorem mt_val {e : Expr} {R : Store → Bool → Prop} (h : ME X w0 e st ss fun st' a => onBool a (R st')) (he : ∀ whole, isTrue e X.env whole = (do let v ← whole; standAt e.pos; holding [v] (truthy v)) := by intro _; rfl) : MT X w0 e st ss R :=
  PT.imp (pt_val h he) fun σ H Q ⟨w, ew, hs, q⟩ => ⟨w, ew, hs, fun v a st' w1 e1 hs1 hv hk => by
    obtain ⟨b, rfl, hb⟩ := onBool.of hk
    cases hv
    exact ⟨b, rfl, q b st' w1 e1 hs1 hb⟩⟩
theorem mt_not {e : Expr} {pos : Pos} {R : Store → Bool → Prop} (h : MT X w0 e st ss fun st' b => R st' (!b)) : MT X w0 (.UnaryOp .Not e pos) st ss R :=
  PT.imp (pt_not h) fun σ H Q ⟨w, ew, hs, q⟩ => ⟨w, ew, hs, fun b st' w1 e1 hs1 hk => q (!b) st' w1 e1 hs1 hk⟩
theorem mt_w {e : Expr} {R : Store → Bool → Prop} (h : MW X w0 e st ss R) : MT X w0 e st ss R := h.pt
theorem mw_and {a b : Expr} {rest : List Expr} {pos : Pos} {R : Store → Bool → Prop} (h : MT X w0 a st ss fun st' c => iteP c (MW X w0 (.BoolOp .And (b :: rest) pos) st' ss R) (R st' false)) : MW X w0 (.BoolOp .And (a :: b :: rest) pos) st ss R :=
  PW.imp (pw_and h (pw_anM (w0 := w0))) fun σ H Q ⟨w, ew, hs, q⟩ => ⟨w, ew, hs, fun c st1 w1 e1 hs1 hk => by
    cases c
    · exact iteF (q false st1 w1 e1 hs1 hk)
    · exact iteT ⟨_, _, _, hk, w1, rfl, hs1, fun d st2 w2 e2 hs2 hd => q d st2 w2 (e1.trans e2) hs2 hd⟩⟩
theorem mw_and1 {a : Expr} {pos : Pos} {R : Store → Bool → Prop} (h : MT X w0 a st ss R) : MW X w0 (.BoolOp .And [a] pos) st ss R := pw_and1 h
theorem m_setM (i : Nat) {x : Str} {e : Expr} {p pos : Pos} {N : MN} (hN : X.N.Nodup) (hi : X.N[i]? = some x) (hx : Loc X.env.scope x) (h : ME X w0 e st ss fun st' a => onPlain a fun a => N.nx st' (ss.set i (some a)))
    (hs : swapsWith e (some (.Name x p)) pos.line X.env = pure false := by rfl) (hf : X.fn x = true ∨ X.env.scope.names.lookup x = some .local := by first | exact .inl rfl | exact .inr rfl | assumption) : MS X w0 (.Assign [.Name x p] e pos) st ss N :=
  PS.imp (ps_set hN hi hx h hs hf) fun D σ H ⟨w, ew, hs, d⟩ => ⟨w, ew, hs, fun v a st' w1 e1 hs1 hv hk => by
    obtain ⟨hp, hk⟩ := hk.of
    exact d.nx _ _ st' w1 e1 (hs1.set i hp hv) hk⟩
/-! ### new cells -/
theorem SOk.new {K : PySem.W.Frag} {w w' : Wl} {p : Addr} {b : Ck} {vs : List V} {as : List AV} (h : SOk K (w0.at st) w) (l0 : Le w0 w) (l : Le w w') (hn : w.h p = none) (h1 : w'.h p = some (hol b vs)) (h2 : w'.g p = none) (h3 : AvA K w' vs as) (hp : as.all AV.plain = true) :
    Fresh st p ∧ SOk K (w0.at ((p, b, as) :: st)) w' := by
  have fr : Fresh st p := fun ⟨q, t, bs⟩ m z => by
    obtain ⟨_, _, us, g1, _⟩ := h.key m
    have z : q = p := z
    rw [z, hn] at g1
    cases g1
  refine ⟨fr, fun q t bs m => ?_, ?_⟩
  · rcases List.mem_cons.mp m with e | e
    · cases e
      exact ⟨exFree l0.h hn, hp, vs, h1, h2, h3⟩
    · exact (h.mono l).own q t bs e
  · show (p :: st.map (·.1)).Nodup
    refine List.nodup_cons.mpr ⟨fun m => ?_, h.nd⟩
    obtain ⟨⟨q, t, bs⟩, m, e⟩ := List.mem_map.mp m
    exact fr _ m e
theorem Sl.new {K : PySem.W.Frag} {w w' : Wl} {σ : L2.St} {p : Addr} {b : Ck} {vs : List V} {as : List AV} (h : Sl K (w0.at st) w σ ss) (l : Le w w') (hn : w.h p = none) (h1 : w'.h p = some (hol b vs)) (h2 : w'.g p = none) (h3 : AvA K w' vs as) (hp : as.all AV.plain = true) :
    Fresh st p ∧ Sl K (w0.at ((p, b, as) :: st)) w' σ ss := by
  obtain ⟨fr, so⟩ := SOk.new h.so h.le.unat l hn h1 h2 h3 hp
  have hm := h.mono l
  refine ⟨fr, ⟨⟨hm.le.g, hm.le.h, hm.le.hid⟩, hm.len, hm.at_, hm.ap, hm.fr, so, fun i ds q e1 e2 t bs m => ?_⟩⟩
  rcases List.mem_cons.mp m with e | e
  · cases e
    obtain ⟨v, z1, r, us, z2, z3, _⟩ := h.at_ i _ e1
    rw [e2] at z1
    cases z1
    cases z2
    rw [hn] at z3
    cases z3
  · exact h.sd i ds q e1 e2 t bs e
/-- a new list of what may stand in the store, nothing leans on it -/
def tmnOf (K : PySem.W.Frag) (w0 : Wl) (b : Ck) (st : Store) (ss : SS) (R : List AV → Prop) : TE := fun σ H Q => ∃ w : Wl, w.h = H ∧ Sl K (w0.at st) w σ ss ∧
  ∀ p vs as w', Le w w' → w.h p = none → w'.h p = some (hol b vs) → w'.g p = none → AvA K w' vs as → as.all AV.plain = true → R as → Q (.ref p) w'.h
abbrev MNw (X : Cx) (w0 : Wl) (b : Ck) (e : Expr) (st : Store) (ss : SS) (R : List AV → Prop) : Prop := PE X e (tmnOf X.K w0 b st ss R)
/-- the new cell is put into the store -/
theorem me_new {b : Ck} {e : Expr} {R : Store → AV → Prop} (h : MNw X w0 b e st ss fun as => ∀ p, Fresh st p → R ((p, b, as) :: st) (.at_ p)) : ME X w0 e st ss R :=
  PE.imp h fun σ H Q ⟨w, ew, hs, q⟩ => ⟨w, ew, hs, fun p vs as w' l hn h1 h2 h3 hp hr => by
    obtain ⟨fr, hs'⟩ := Sl.new hs l hn h1 h2 h3 hp
    exact q (.ref p) (.at_ p) _ w' l.g hs' rfl (hr p fr)⟩
theorem mn_lst {es : List Expr} {pos : Pos} {R : List AV → Prop} (h : KA X (w0.at st) es ss fun as => as.all AV.plain = true ∧ as.length ≤ 100000 ∧ R as) : MNw X w0 .lst (.List es pos) st ss R :=
  PE.imp (pe_lst h) fun σ H Q ⟨w, ew, hs, q⟩ => ⟨w, ew, hs, fun vs as w1 l1 hvs hk => by
    obtain ⟨hp, hz, hr⟩ := hk
    refine ⟨by rw [hvs.length]; exact Nat.le_trans hz (by decide), fun p hpn => ?_⟩
    exact q p vs as (w1.own p (.lst vs) (w1.gfree hpn)) (l1.trans (Le.own hpn)) (exFree l1.h hpn) upd_same (w1.gfree hpn) (hvs.mono (Le.own hpn)) hp hr⟩
theorem mn_tup {es : List Expr} {x1 : Nat} {pos : Pos} {R : List AV → Prop} (h : KA X (w0.at st) es ss fun as => as.all AV.plain = true ∧ as.length ≤ 100000 ∧ R as) : MNw X w0 .tup (.Tuple es x1 pos) st ss R :=
  PE.imp (pe_tup h) fun σ H Q ⟨w, ew, hs, q⟩ => ⟨w, ew, hs, fun vs as w1 l1 hvs hk => by
    obtain ⟨hp, hz, hr⟩ := hk
    refine ⟨by rw [hvs.length]; exact Nat.le_trans hz (by decide), fun p hpn => ?_⟩
    exact q p vs as (w1.own p (.tup vs) (w1.gfree hpn)) (l1.trans (Le.own hpn)) (exFree l1.h hpn) upd_same (w1.gfree hpn) (hvs.mono (Le.own hpn)) hp hr⟩
theorem AvA.ofDd {K : PySem.W.Frag} {w : Wl} : ∀ {ds : List PyData} {vs : List V}, DdA K w.g vs ds → AvA K w vs (ds.map .dat)
  | [], _, .nil => .nil
  | _ :: _, _, .cons a t => .cons a (AvA.ofDd t)
theorem plain_dats : ∀ {ds : List PyData}, (ds.map AV.dat).all AV.plain = true
  | [] => rfl
  | _ :: ds => plain_dats (ds := ds)
theorem mn_kn {e : Expr} {R : List AV → Prop} (h : KN X (w0.at st) e ss fun ds => R (ds.map .dat)) : MNw X w0 .lst e st ss R :=
  PE.imp h fun σ H Q ⟨w, ew, hs, q⟩ => ⟨w, ew, hs, fun p vs ds w' l hn h1 h2 hd hr => q p vs (ds.map .dat) w' l hn h1 h2 (AvA.ofDd hd) plain_dats hr⟩
end
end Kp


namespace Kp
open PySem PySem.Spec PyProof.Rows L2
/-- the list at p is now this -/
def stSet (st : Store) (p : Addr) (as : List AV) : Store := st.map fun x => if x.1 = p then (p, x.2.1, as) else x
theorem stSet_keys (st : Store) (p : Addr) (as : List AV) : (stSet st p as).map (·.1) = st.map (·.1) := by
  unfold stSet
  rw [List.map_map]
  refine List.map_congr_left fun x _ => ?_
  show (if x.1 = p then (p, x.2.1, as) else x).1 = x.1
  split
  · rename_i h; exact h.symm
  · rfl
theorem mem_stSet {st : Store} {p q : Addr} {as bs : List AV} {b : Ck} (h : (q, b, bs) ∈ stSet st p as) : (q = p ∧ bs = as ∧ ∃ cs, (p, b, cs) ∈ st) ∨ (q ≠ p ∧ (q, b, bs) ∈ st) := by
  obtain ⟨⟨r, c, cs⟩, m, e⟩ := List.mem_map.mp h
  by_cases z : r = p
  · have e : (if r = p then (p, c, as) else (r, c, cs)) = (q, b, bs) := e
    rw [if_pos z] at e
    cases e
    exact .inl ⟨rfl, rfl, cs, by rw [← z]; exact m⟩
  · have e : (if r = p then (p, c, as) else (r, c, cs)) = (q, b, bs) := e
    rw [if_neg z] at e
    cases e
    exact .inr ⟨z, m⟩
theorem stSet_at {st : Store} {p : Addr} {as bs : List AV} {b : Ck} (h : (p, b, bs) ∈ st) : (p, b, as) ∈ stSet st p as := List.mem_map.mpr ⟨_, h, if_pos rfl⟩
theorem stSet_ne {st : Store} {p q : Addr} {as bs : List AV} {b : Ck} (h : (q, b, bs) ∈ st) (ne : q ≠ p) : (q, b, bs) ∈ stSet st p as := List.mem_map.mpr ⟨_, h, if_neg ne⟩
section
variable {K : PySem.W.Frag} {w0 w w' : Wl} {st : Store} {σ : L2.St} {ss ss' : SS}
theorem SOk.one (h : SOk K (w0.at st) w) {p : Addr} {b c : Ck} {as bs : List AV} (m : (p, b, as) ∈ st) (n : (p, c, bs) ∈ st) : b = c ∧ as = bs := by
  have nd : (st.map (·.1)).Nodup := h.nd
  clear h
  induction st with
  | nil => cases m
  | cons x t ih =>
    have nd : (x.1 :: t.map (·.1)).Nodup := nd
    obtain ⟨n1, n2⟩ := List.nodup_cons.mp nd
    rcases List.mem_cons.mp m with e | e
    · rcases List.mem_cons.mp n with f | f
      · rw [← e] at f
        cases f
        exact ⟨rfl, rfl⟩
      · rw [← e] at n1
        exact absurd (List.mem_map_of_mem (f := (·.1)) f) n1
    · rcases List.mem_cons.mp n with f | f
      · rw [← f] at n1
        exact absurd (List.mem_map_of_mem (f := (·.1)) e) n1
      · exact ih e f n2
theorem Sl.setC {p : Addr} {as bs : List AV} {vs : List V} (h : Sl K (w0.at st) w σ ss) (m : (p, Ck.lst, as) ∈ st) (hg : w.g p = none) (hv : AvA K w vs bs) (hp : bs.all AV.plain = true) : Sl K (w0.at (stSet st p bs)) (w.own p (.lst vs) hg) σ ss := by
  have h0 : w0.h p = none := (h.so.key m).1
  refine ⟨⟨h.le.g, fun b o e => ?_, h.le.hid⟩, h.len, fun i a e => ?_, h.ap, h.fr, ⟨fun q b cs n => ?_, ?_⟩, fun i ds q e1 e2 b cs n => ?_⟩
  · show upd w.h p _ b = some o
    rw [upd_ne (ne_of_none e h0)]
    exact h.le.h b o e
  · obtain ⟨v, h1, h2⟩ := h.at_ i a e
    refine ⟨v, h1, ?_⟩
    cases a with
    | buf es =>
      obtain ⟨r, zs, rfl, c1, c2, c3⟩ := h2
      have z : r ≠ p := fun z => by
        subst z
        exact h.sd i es r e h1 .lst as m
      exact ⟨r, zs, rfl, (upd_ne z).trans c1, c2, c3⟩
    | _ => exact h2
  · have n : (q, b, cs) ∈ stSet st p bs := n
    rcases mem_stSet n with ⟨rfl, rfl, ds, n⟩ | ⟨ne, n⟩
    · obtain ⟨rfl, _⟩ := h.so.one n m
      exact ⟨h0, hp, vs, upd_same, hg, AvA.monoG (w1 := w) (w2 := w.own q (.lst vs) hg) (Ex.refl w.g) hp hv⟩
    · obtain ⟨z0, z1, us, z2, z3, z4⟩ := h.so.key n
      exact ⟨z0, z1, us, (upd_ne ne).trans z2, z3, AvA.monoG (w1 := w) (w2 := w.own p (.lst vs) hg) (Ex.refl w.g) z1 z4⟩
  · show ((stSet st p bs).map (·.1)).Nodup
    rw [stSet_keys]
    exact h.so.nd
  · have n : (q, b, cs) ∈ stSet st p bs := n
    rcases mem_stSet n with ⟨rfl, rfl, ds2, n⟩ | ⟨ne, n⟩
    · exact h.sd i ds q e1 e2 b ds2 n
    · exact h.sd i ds q e1 e2 b cs n
end
section
variable {X : Cx} {w0 : Wl} {ss ss' : SS} {st : Store}
def anM (X : Cx) (w0 : Wl) (e : Expr) : TE := fun σ H Q => ∃ st ss R, ME X w0 e st ss R ∧ tmeOf X.K w0 st ss R σ H Q
theorem pe_anM {e : Expr} : PE X e (anM X w0 e) := ⟨fun pins s σ H Q I ⟨_, _, _, h, q⟩ => h.run pins s σ H Q I q⟩
theorem AvA.appA {K : PySem.W.Frag} {w : Wl} : ∀ {vs us : List V} {as bs : List AV}, AvA K w vs as → AvA K w us bs → AvA K w (vs ++ us) (as ++ bs)
  | _, _, _, _, .nil, h => h
  | _, _, _, _, .cons a t, h => .cons a (AvA.appA t h)
theorem m_app {o e : Expr} {apos cpos pos : Pos} {N : MN}
    (h : KE X (w0.at st) o ss fun a => ∃ p as0, a = .at_ p ∧ (p, Ck.lst, as0) ∈ st ∧ ME X w0 e st ss fun st' x => onPlain x fun x => ∃ as, (p, Ck.lst, as) ∈ st' ∧ as.length < 100000 ∧ N.nx (stSet st' p (as ++ [x])) ss)
    (hbase : attributeBase o "append" X.env (eval o X.env) = eval o X.env := by rfl)
    (hfew : ((backTo cpos (starEach [e] X.env)).all (fun x => !x.1) && (backToKw cpos (keywordEach [] X.env)).all (fun x => x.1.isSome) && decide (([e] : List Expr).length + ([] : List Keyword).length + (if ([] : List Keyword).isEmpty then 0 else 1) < 30)) = true := by rfl)
    (hline : (apos.endLine == cpos.line) = true := by rfl) (hs : starEach [e] X.env = (false, eval e X.env) :: starEach [] X.env := by rfl) (hplain : (backTo cpos (starEach [] X.env)).any (·.1) = false := by rfl)
    (hsw : swapsWith (.Call (.Attribute o "append" apos) [e] [] cpos) none pos.line X.env = pure false := by rfl) : MS X w0 (.Expr (.Call (.Attribute o "append" apos) [e] [] cpos) pos) st ss N := by
  refine PS.imp (ps_expr (pe_bm PySem.F.plainAttrs_list PySem.F.slot_list_append PySem.F.type_list_append mt_append h (pa_cons (pe_anM (w0 := w0)) pa_nil hs) hbase hfew hline hs hplain) hsw) fun D σ H ⟨w, ew, hsl, d⟩ => ?_
  refine ⟨w, ew, hsl, fun v a w1 l1 hv ⟨p, as0, ea, m0, he⟩ => ?_⟩
  subst ea
  cases hv
  have hs1 := hsl.mono l1
  obtain ⟨_, _, vs0, g1, _, _⟩ := hs1.so.key m0
  have g1 : w1.h p = some (.lst vs0) := g1
  refine ⟨.inl ⟨rfl, _, .inl (.inl g1)⟩, st, ss, _, he, w1, rfl, hs1, fun u x st' w2 e2 hs2 hu hx => ?_⟩
  obtain ⟨hpx, as, m, hz, hk⟩ := hx.of
  obtain ⟨_, hpa, vs, k1, k2, k3⟩ := hs2.so.key m
  have k1 : w2.h p = some (.lst vs) := k1
  refine ⟨p, vs, u, rfl, rfl, k1, Nat.lt_of_lt_of_le (by rw [k3.length]; exact hz) (by decide), ?_⟩
  have hall : (as ++ [x]).all AV.plain = true := by
    rw [List.all_append, hpa, List.all_cons, hpx]
    rfl
  exact d.nx σ ss _ (w2.own p (.lst (vs ++ [u])) k2) (l1.g.trans e2) (hs2.setC m k2 (k3.appA (.cons hu .nil)) hall) hk
/-! ### loops -/
theorem m_for {tg iter : Expr} {body : List Stmt} {g : TG} {T : PyData → SS → (SS → Prop) → Prop} {vs : List Nat} {pos : Pos} {N : MN} (hp : PassesOwn (model X.prog X.w) X.A X.env X.xe) (hc : X.calm = true) (hT : ∀ st, TgOk X.K (w0.at st) g T vs) (hg : PG X tg g)
    (h : KI X (w0.at st) tg iter ss fun ds => ∃ I : Nat → Store → SS → Prop, I 0 st ss ∧ (∀ i d st' ss', ds[i]? = some d → I i st' ss' → T d ss' fun ss2 => MSs X w0 body st' ss2 { nx := I (i + 1), rt := N.rt, bk := N.nx, ct := I (i + 1) }) ∧ ∀ st' ss', I ds.length st' ss' → N.nx st' ss')
    (hs : ∀ x, foldedSetIterable iter X.env x = pure x := by intro _; rfl) : MS X w0 (.For tg iter body [] pos) st ss N := by
  refine PS.imp (ps_for hp hc h hg (pss_anM (w0 := w0)) hs) fun D σ H ⟨w, ew, hsl, d⟩ => ⟨w, ew, hsl, fun J ds w1 l1 walk hk => ?_⟩
  obtain ⟨I, i0, it, ie⟩ := hk
  refine ⟨fun i m σ' H' => m = ds.length - i ∧ i ≤ ds.length ∧ ∃ (st' : Store) (ss' : SS) (w' : Wl), w'.h = H' ∧ Sl X.K (w0.at st') w' σ' ss' ∧ Ex w1.g w'.g ∧ I i st' ss', ⟨ds.length, by simp, Nat.zero_le _, st, ss, w1, rfl, hsl.mono l1, Ex.refl _, i0⟩, ?_⟩
  rintro i m σ' H' ⟨rfl, hi, st', ss', w', rfl, hs', eg, hI⟩
  by_cases hlt : i < ds.length
  · refine .inr ?_
    have hget : ds[i]? = some ds[i] := by simp [hlt]
    obtain ⟨hgo, hy⟩ := (walk w' eg i).1 _ hget
    refine ⟨hgo, fun σ2 H2 => ∃ (st' : Store) (ss' : SS) (w' : Wl), w'.h = H2 ∧ Sl X.K (w0.at st') w' σ2 ss' ∧ Ex w1.g w'.g ∧ I (i + 1) st' ss', fun σ2 H2 iv => ⟨ds.length - (i + 1), by omega, rfl, hlt, iv⟩, fun x H2 y => ?_⟩
    obtain ⟨w2, rfl, l2, hx⟩ := hy x H2 y
    refine (hT st').go x ds[i] w2 _ _ _ _ hx (hs'.mono l2) (it i _ st' ss' hget hI) fun σ2 ss2 hs2 _ k2 => ?_
    have e2 : Ex w1.g w2.g := eg.trans l2.g
    refine ⟨st', ss2, _, k2, w2, rfl, hs2, ⟨fun σ3 ss3 st3 w3 x3 s3 n3 => ⟨st3, ss3, w3, rfl, s3, e2.trans x3, n3⟩, fun v a st3 w3 x3 l3 o3 a3 r3 => d.rt v a st3 w3 (l1.g.trans (e2.trans x3)) l3 o3 a3 r3, fun σ3 ss3 st3 w3 x3 s3 n3 => d.nx σ3 ss3 st3 w3 (l1.g.trans (e2.trans x3)) s3 n3, fun σ3 ss3 st3 w3 x3 s3 n3 => ⟨st3, ss3, w3, rfl, s3, e2.trans x3, n3⟩⟩⟩
  · have e : i = ds.length := by omega
    subst e
    exact .inl ⟨(walk w' eg ds.length).2 (Nat.le_refl _), d.nx σ' ss' st' w' (l1.g.trans eg) hs' (ie st' ss' hI)⟩
/-- over a list of the store, that stays -/
theorem m_forO {x : Str} {p1 : Pos} {iter : Expr} {body : List Stmt} {j : Nat} {pos : Pos} {N : MN} (hp : PassesOwn (model X.prog X.w) X.A X.env X.xe) (hc : X.calm = true) (hg : PG X (.Name x p1) (gName j))
    (h : KE X (w0.at st) iter ss fun a => ∃ (L : Addr) (as : List AV) (I : Nat → Store → SS → Prop), a = .at_ L ∧ (L, Ck.lst, as) ∈ st ∧ I 0 st ss ∧ (∀ i st' ss', I i st' ss' → (L, Ck.lst, as) ∈ st') ∧
      (∀ i a st' ss', as[i]? = some a → I i st' ss' → MSs X w0 body st' (ss'.set j (some a)) { nx := I (i + 1), rt := N.rt, bk := N.nx, ct := I (i + 1) }) ∧ ∀ st' ss', I as.length st' ss' → N.nx st' ss')
    (hs : ∀ x, foldedSetIterable iter X.env x = pure x := by intro _; rfl) : MS X w0 (.For (.Name x p1) iter body [] pos) st ss N := by
  refine PS.imp (ps_for hp hc (pi_list h) hg (pss_anM (w0 := w0)) hs) fun D σ H ⟨w, ew, hsl, d⟩ => ⟨w, ew, hsl, fun v a w1 l1 hv hk => ?_⟩
  obtain ⟨L, as, I, rfl, mL, i0, im, it, ie⟩ := hk
  cases hv
  have hs1 := hsl.mono l1
  obtain ⟨_, _, vs1, g1, _, _⟩ := hs1.so.key mL
  have g1 : w1.h L = some (.lst vs1) := g1
  refine ⟨L, rfl, ⟨_, .inl (.inl g1)⟩, ?_⟩
  refine ⟨fun i m σ' H' => m = as.length - i ∧ i ≤ as.length ∧ ∃ (st' : Store) (ss' : SS) (w' : Wl), w'.h = H' ∧ Sl X.K (w0.at st') w' σ' ss' ∧ Ex w1.g w'.g ∧ I i st' ss', ⟨as.length, by simp, Nat.zero_le _, st, ss, w1, rfl, hs1, Ex.refl _, i0⟩, ?_⟩
  rintro i m σ' H' ⟨rfl, hi, st', ss', w', rfl, hs', eg, hI⟩
  obtain ⟨_, hpl, us, k1, _, k3⟩ := hs'.so.key (im i st' ss' hI)
  have k1 : SqL X.K w'.h L us := .inl (.inl k1)
  by_cases hlt : i < as.length
  · refine .inr ?_
    have hget : as[i]? = some as[i] := by simp [hlt]
    obtain ⟨u, hu, au⟩ := k3.get hget
    refine ⟨⟨us, u, k1, hu⟩, fun σ2 H2 => ∃ (st' : Store) (ss' : SS) (w' : Wl), w'.h = H2 ∧ Sl X.K (w0.at st') w' σ2 ss' ∧ Ex w1.g w'.g ∧ I (i + 1) st' ss', fun σ2 H2 iv => ⟨as.length - (i + 1), by omega, rfl, hlt, iv⟩, fun y H2 yy => ?_⟩
    obtain ⟨rfl, yy⟩ := yy
    have e3 := yy us k1
    rw [hu] at e3
    cases e3
    have hpa : (as[i]).plain = true := List.all_eq_true.mp hpl _ (List.getElem_mem hlt)
    refine ⟨st', _, _, it i _ st' ss' hget hI, w', rfl, hs'.set (a := as[i]) j hpa au, ⟨fun σ3 ss3 st3 w3 x3 s3 n3 => ⟨st3, ss3, w3, rfl, s3, eg.trans x3, n3⟩, fun v a st3 w3 x3 l3 o3 a3 r3 => d.rt v a st3 w3 (l1.g.trans (eg.trans x3)) l3 o3 a3 r3, fun σ3 ss3 st3 w3 x3 s3 n3 => d.nx σ3 ss3 st3 w3 (l1.g.trans (eg.trans x3)) s3 n3, fun σ3 ss3 st3 w3 x3 s3 n3 => ⟨st3, ss3, w3, rfl, s3, eg.trans x3, n3⟩⟩⟩
  · have e : i = as.length := by omega
    subst e
    exact .inl ⟨⟨us, k1, by rw [k3.length]; exact Nat.le_refl _⟩, d.nx σ' ss' st' w' (l1.g.trans eg) hs' (ie st' ss' hI)⟩
end
/-! ### defs that change the store -/
/-- C: the store, the arguments, what is wanted of the store and the answer -/
def spM (K : PySem.W.Frag) (C : Store → List AV → (Store → AV → Prop) → Prop) : Sp := fun vs H Q _ => ∃ (w0 w : Wl) (st : Store) (as : List AV) (R : Store → AV → Prop), w.h = H ∧ Le w0 w ∧ SOk K (w0.at st) w ∧ AvA K w vs as ∧ (as.all AV.plain = true ∧ C st as R) ∧
  ∀ v a st' w', Le w0 w' → Ex w.g w'.g → SOk K (w0.at st') w' → Av K w' v a → R st' a → Q v w'.h
/-- by the name x a def is called that does C -/
def DnM (P : Program) (w : World) (K : PySem.W.Frag) (mg : Str → Option Value) (base : Heap) (x : Str) (k : Nat) (C : Store → List AV → (Store → AV → Prop) → Prop) : Prop := ∃ (f : Addr) (fd : FuncData) (ps : List Str),
  FnOk P w K mg base CX0 k f fd ps (spM K C) ∧ mg x = some (.ref f) ∧ PySem.W.keepIn K (.ref f) = true ∧ Binds K fd ps []
theorem Sl.startM {K : PySem.W.Frag} {w0 w : Wl} {st : Store} {N : List Str} {vs : List V} {as : List AV} (l : Le w0 w) (o : SOk K (w0.at st) w) (h : AvA K w vs as) (hp : as.all AV.plain = true) : Sl K (w0.at st) w (L2.start N vs) (ss0 N.length as) := by
  have s := Sl.start (N := N) h hp
  refine ⟨⟨l.g, l.h, l.hid⟩, s.len, s.at_, s.ap, fun i ds p e1 e2 => exFree l.h (s.fr i ds p e1 e2), o, fun i ds p e1 e2 b bs m => ?_⟩
  have z : w.h p = none := s.fr i ds p e1 e2
  obtain ⟨_, _, us, q, _⟩ := o.key m
  rw [z] at q
  cases q
section
variable {base : Heap} {K : PySem.W.Frag} {w : World} {P : Program} {mg : Str → Option Value}
theorem dnM {x : Str} {sm : Stmt} {N ps : List Str} {k : Nat} {C : Store → List AV → (Store → AV → Prop) → Prop} (F : Fn0 K mg x sm ps) (S : FnScope N ps (defScope sm)) (len : ∀ st as R, C st as R → as.length = ps.length)
    (hbody : ∀ (f : Addr) (cdv : Value) (A : Around) (outer : List Env) (s : Shared) (H : Hp) (E : XK) (w0 : Wl) (st : Store) (as : List AV) (R : Store → AV → Prop), Room k (A.deeper (envOfC x (defScope sm) s.heap.objs.size f cdv)) → C st as R →
      MSs (cxB P w K mg base N x (defScope sm) f cdv A outer s H E) w0 (defBody sm) st (ss0 N.length as) { nx := fun st' _ => R st' (.dat .none), rt := R }) : DnM P w K mg base x (k + 1) C := by
  obtain ⟨f, fd, F, hm, hb⟩ := F
  refine ⟨f, fd, ps, F.ok S (fun vs H Q E ⟨w0, w1, st, as, R, e, l, o, hv, hc, q⟩ => by rw [hv.length]; exact len st as R hc.2) fun cdv A outer s H vs Q E hr ⟨w0, w1, st, as, R, e, l, o, hv, hc, q⟩ => ?_, hm, F.kp, hb⟩
  refine ⟨_, hbody f cdv A outer s H E w0 st as R hr hc.2, w1, e, Sl.startM l o hv hc.1, ⟨fun σ' ss' st' w' eg hs hk => q .non (.dat .none) st' w' hs.le.unat eg hs.so .non hk, fun v a st' w' eg hl ho ha hr => q v a st' w' hl eg ho ha hr, fun _ _ _ _ _ _ h => h.elim, fun _ _ _ _ _ _ h => h.elim⟩⟩
end
section
variable {X : Cx} {w0 : Wl} {ss : SS} {st : Store}
/-- a heap without what the store holds -/
def offH (h : Hp) (st : Store) : Hp := fun b => if b ∈ st.map (·.1) then none else h b
theorem me_call {C : Store → List AV → (Store → AV → Prop) → Prop} {j k : Nat} {x : Str} {p pos : Pos} {e : Expr} {es : List Expr} {R : Store → AV → Prop} (D : DnM X.prog X.w X.K X.mg X.base x k C) (hr : Room j X.A) (hk : k ≤ j) (hg : Gl X x)
    (h : KA X (w0.at st) (e :: es) ss fun as => as.all AV.plain = true ∧ C st as R) (hdb : (x == ("__debug__" : Str)) = false := by decide) (he : starEach (e :: es) X.env = (false, eval e X.env) :: starEach es X.env := by rfl) (hpl : (backTo pos (starEach es X.env)).any (·.1) = false := by rfl) :
    ME X w0 (.Call (.Name x p) (e :: es) [] pos) st ss R := by
  obtain ⟨f, fd, ps, F, hm, hkp, hb⟩ := D
  refine PE.imp (pe_call F (hr.mono hk) hg hm hkp hb .nil pass0 h hdb he hpl) fun σ H Q ⟨w, ew, hs, q⟩ => ⟨w, ew, hs, fun vs as w1 l1 hvs hk => ?_⟩
  show spM X.K C (vs ++ []) w1.h Q _
  rw [List.append_nil]
  have hs1 := hs.mono l1
  have offIn : ∀ b, b ∈ st.map (·.1) → offH w1.h st b = none := fun b h => if_pos h
  have offOut : ∀ b, b ∉ st.map (·.1) → offH w1.h st b = w1.h b := fun b h => if_neg h
  have sub : Ex w1.g (offH w1.h st) := fun b u e => by
    by_cases z : b ∈ st.map (·.1)
    · obtain ⟨t, bs, m⟩ := mem_key z
      obtain ⟨_, _, us, _, q2, _⟩ := hs1.so.key m
      rw [q2] at e
      cases e
    · rw [offOut b z]
      exact w1.sub b u e
  have le1 : Le ⟨w1.g, offH w1.h st, sub, []⟩ w1 := ⟨Ex.refl _, fun b u e => by
    by_cases z : b ∈ st.map (·.1)
    · have e : offH w1.h st b = some u := e
      rw [offIn b z] at e
      cases e
    · have e : offH w1.h st b = some u := e
      rw [offOut b z] at e
      exact e, fun _ _ h => h⟩
  refine ⟨⟨w1.g, offH w1.h st, sub, []⟩, w1, st, as, R, rfl, le1, ⟨fun q b bs m => ?_, hs1.so.nd⟩, hvs, hk, fun v a st' w' l' eg o' ha hr => ?_⟩
  · obtain ⟨z0, z1, us, z2, z3, z4⟩ := hs1.so.key m
    exact ⟨offIn q (List.mem_map_of_mem (f := (·.1)) m), z1, us, z2, z3, z4⟩
  · have keep : ∀ b u, b ∉ st.map (·.1) → w1.h b = some u → w'.h b = some u := fun b u z e => l'.h b u ((offOut b z).trans e)
    have nokey : ∀ b, w0.h b ≠ none → b ∉ st.map (·.1) := fun b hb z => by
      obtain ⟨t, bs, m⟩ := mem_key z
      exact hb (hs1.so.key m).1
    have hidN : ∀ b, b ∉ st.map (·.1) → w1.h b ≠ none → w1.g b = none → w'.g b = none := fun b z e1 e2 => l'.hid b (by
      show offH w1.h st b ≠ none
      rw [offOut b z]
      exact e1) e2
    have bufN : ∀ (i : Nat) (ds : List PyData) (p : Addr), ss[i]? = some (some (AV.buf ds)) → σ[i]? = some (some (V.ref p)) → p ∉ st.map (·.1) := fun i ds p e1 e2 z => by
      obtain ⟨t, bs, m⟩ := mem_key z
      exact hs1.sd i ds p e1 e2 t bs m
    refine q v a st' w' (l1.g.trans eg) ⟨⟨hs1.le.g.trans eg, fun b u e => keep b u (nokey b (by have e : w0.h b = some u := e; rw [e]; simp)) (hs1.le.h b u e), fun b h1 h2 => ?_⟩, hs1.len, fun i c e => ?_, hs1.ap, hs1.fr, ⟨fun q b bs m => ?_, o'.nd⟩, fun i ds p e1 e2 b bs m => ?_⟩ ha hr
    · have h1 : w0.h b ≠ none := h1
      refine hidN b (nokey b h1) (fun z => h1 (exFree hs1.le.h z)) (hs1.le.hid b h1 h2)
    · obtain ⟨u, h1, h2⟩ := hs1.at_ i c e
      refine ⟨u, h1, ?_⟩
      by_cases hp : c.plain = true
      · exact Av.monoG eg hp h2
      · cases c with
        | buf ds =>
          obtain ⟨p, us, rfl, g1, g2, g3⟩ := h2
          have z := bufN i ds p e h1
          exact ⟨p, us, rfl, keep p _ z g1, hidN p z (by rw [g1]; simp) g2, g3.mono eg⟩
        | _ => exact absurd rfl hp
    · obtain ⟨z0, z1, us, z2, z3, z4⟩ := o'.own q b bs m
      refine ⟨?_, z1, us, z2, z3, z4⟩
      show w0.h q = none
      cases e : w0.h q with
      | none => rfl
      | some u =>
        have n := nokey q (by rw [e]; simp)
        have z0 : offH w1.h st q = none := z0
        rw [offOut q n] at z0
        have := hs1.le.h q u e
        rw [this] at z0
        cases z0
    · obtain ⟨z0, _⟩ := o'.own p b bs m
      have z0 : offH w1.h st p = none := z0
      have n := bufN i ds p e1 e2
      rw [offOut p n] at z0
      obtain ⟨u, h1, r, us, h2, h3, _⟩ := hs1.at_ i _ e1
      rw [e2] at h1
      cases h1
      cases h2
      rw [z0] at h3
      cases h3
end
section
variable {base : Heap} {K : PySem.W.Frag} {w : World} {P : Program} {mg : Str → Option Value}
/-- what comes new, all of it leant on -/
theorem DnM.data {x : Str} {k : Nat} {C : Store → List AV → (Store → AV → Prop) → Prop} {C' : List AV → (AV → Prop) → Prop} (D : DnM P w K mg base x k C) (h : ∀ as R, C' as R → C [] as fun st' a => ∃ d, Spl st' a d ∧ R (.dat d)) : Dn P w K mg base x k C' := by
  obtain ⟨f, fd, ps, F, hm, hk, hb⟩ := D
  refine ⟨f, fd, ps, F.imp fun vs H Q E ⟨w1, as, R, ew, hv, hc, q⟩ => ?_, hm, hk, hb⟩
  refine ⟨w1.bare, w1, [], as, _, ew, Le.bare w1, SOk.bare, hv, ⟨hc.1, h as R hc.2⟩, fun v a st' w' l' eg o' ha ⟨d, sp, hr⟩ => ?_⟩
  refine q v (.dat d) (w'.frz st') ⟨eg.trans o'.frz_g, l'.h, fun b h1 h2 => ?_⟩ (Spl.dd o' sp ha) hr
  have z : b ∉ st'.map (·.1) := fun z => by
    obtain ⟨t, bs, m⟩ := mem_key z
    exact h1 (o'.own b t bs m).1
  exact (frzG_out z).trans (l'.hid b h1 h2)
end
end Kp


namespace Kp
open PySem PySem.Spec PyProof.Rows L2
/-! ### own errors over any built-in class: their fields stored, themselves made and held as values -/
structure OxG (K : PySem.W.Frag) (C : Addr) (B newId initId : String) (bm : List Value) : Prop where
  F : ExcBaseFacts B newId initId bm
  S : StoreFacts B bm "object.__setattr__" "object"
  i : PySem.W.excInitIn K C bm newId = true
  o : PySem.W.excOver K C bm = true
  d : PySem.W.hasDictIn K C = true
  sa : PySem.W.findIn K (.ref C) "__setattr__" = some (some (.builtin "object.__setattr__"))
  k : PySem.W.keepIn K (.ref C) = true
section
variable {prog : Program} {w : World} {A : Around} {R : Result → Shared → Prop} {hp : Heap} {g : Array GenState} {d : Drawn} {t : Nat} {os : OsState} {K : PySem.W.Frag} {C x : Addr} {B newId initId : String} {bm : List Value} {name : Str} {tk : Tok} {v : Value} {t1 : Addr}
theorem osg_new (G : OxG K C B newId initId bm) (X : K.In hp) (hx : hp.get? x = some (PySem.W.excObj C t1 none .none)) (ha : PySem.W.findIn K (.ref C) name = some none)
    (hq : ∀ h' tk' dx, (∀ b o, b ≠ x → hp.get? b = some o → h'.get? b = some o) → hp.objs.size ≤ dx → dx ≠ x → h'.get? x = some (PySem.W.excObj C t1 (some dx) .none) → h'.Ns1 dx (fun y => if y = name then some v else none) → R (.ok (.ret .none)) ⟨h', g, d, tk', os⟩) :
    codeAny (model prog w) A (.call (.builtin "object.__setattr__") ⟨[.ref x, .str name tk, v], []⟩) R ⟨hp, g, d, t, os⟩ := by
  have lt : x ≠ hp.objs.size := Nat.ne_of_lt (Heap.lt_size hx)
  have hx1 : (hp.push (PySem.W.dictOf [] 0)).get? x = some (PySem.W.excObj C t1 none .none) := Heap.get?_push_of_some _ hx
  obtain ⟨cd, hc, hd⟩ := PySem.W.any_some G.d
  refine PySem.W.osa_openX (od := none) G.S X ⟨hx, rfl, rfl, trivial⟩ G.o (by unfold PySem.W.takerIn; rw [ha]; rfl) fun b => wpAny_bind (wpAny_pure (wpAny_bind (PySem.W.instanceDict_exc hx (PySem.W.looks_clsIn X hc) hd ?_)))
  refine HandSPX.store_in_new (dx := hp.objs.size) ?_ fun h' tk' n1 sb => hq h' tk' hp.objs.size (fun b o hb ho => ?_) (Nat.le_refl _) lt.symm ?_ n1
  · exact ⟨_, #[], _, (Heap.get?_update_ne _ _ _ _ lt.symm).trans (Heap.get?_push_at rfl rfl), rfl, fun e he => absurd he (by simp), fun _ => rfl⟩
  · rw [sb.2 b (Nat.ne_of_lt (Heap.lt_size ho)), Heap.get?_update_ne _ _ _ _ hb]
    exact Heap.get?_push_of_some _ ho
  · rw [sb.2 x lt]
    exact Heap.get?_update_self _ hx1 rfl
theorem osg_old {dx : Addr} {m0 : Str → Option Value} {nl : List Str} (G : OxG K C B newId initId bm) (X : K.In hp) (hx : hp.get? x = some (PySem.W.excObj C t1 (some dx) .none)) (hns : hp.Ns1 dx m0) (hw : Within m0 nl) (hz : nl.length ≤ 1000) (ha : PySem.W.findIn K (.ref C) name = some none)
    (hq : ∀ h' tk', (∀ b o, b ≠ dx → hp.get? b = some o → h'.get? b = some o) → h'.Ns1 dx (fun y => if y = name then some v else m0 y) → R (.ok (.ret .none)) ⟨h', g, d, tk', os⟩) :
    codeAny (model prog w) A (.call (.builtin "object.__setattr__") ⟨[.ref x, .str name tk, v], []⟩) R ⟨hp, g, d, t, os⟩ := by
  obtain ⟨od, _, _, ho, _, _⟩ := hns.count hw
  obtain ⟨cd, hc, hd⟩ := PySem.W.any_some G.d
  refine PySem.W.osa_openX (od := some od) G.S X ⟨hx, rfl, rfl, ho⟩ G.o (by unfold PySem.W.takerIn; rw [ha]; rfl) fun b => wpAny_bind (wpAny_pure (wpAny_bind (wpAny_bind (wpAny_loadPart hx (wpAny_bind ((PySem.W.looks_clsIn X hc).here ?_))))))
  rw [hd]
  refine wpAny_pure (a := some dx) ?_
  exact OEX.store_in_old hns hw hz fun h' tk' n1 sb => hq h' tk' (fun b o hb ho => (sb.2 b hb).trans ho) n1
end
section
variable {X : Cx} {pins : List (Addr × Obj)} {σ : L2.St} {H : Hp} {s : Shared} {a C dx : Addr} {f : Str} {y : V} {u : Value} {fs : List (Str × V)} {Q : Unit → Shared → Prop} {E : Value → Shared → Prop} {A : Around} {B newId initId : String} {bm : List Value}
theorem ostG_new (T : OxG X.K C B newId initId bm) (I : Inv X pins σ H s) (e : H a = some (exo a C none)) (hno : PySem.W.findIn X.K (.ref C) f = some none) (ry : RelV y u)
    (h : ∀ dx s', H dx = none → dx ≠ a → Inv X pins σ (upd (upd H dx (exd dx [(f, y)])) a (exo a C (some dx))) s' → Q () s') : wpAny (model X.prog X.w) A (setAttr (.ref a) f u) Q E s := by
  obtain ⟨t1, ho⟩ := exo_at I.hok e
  obtain ⟨hp, g, d, t, os⟩ := s
  refine PySem.W.set_plain I.kIn (od := none) ⟨ho, rfl, rfl, trivial⟩ T.sa (osg_new T I.kIn ho hno fun h' tk' dx k dn dne hx hn => ?_)
  have hnd : H dx = none := I.hok.fresh dn
  have nd : ∀ {b : Addr} {o : Obj}, hp.get? b = some o → b ≠ dx := fun {b o} q => Nat.ne_of_lt (Nat.lt_of_lt_of_le (Heap.lt_size q) dn)
  have na : ∀ {b : Addr}, H b = none → b ≠ a := fun {b} n z => by
    rw [z, e] at n
    cases n
  have ne : ∀ {b : Addr} {o : HO}, b ≠ a → H b = some o → upd (upd H dx (exd dx [(f, y)])) a (exo a C (some dx)) b = some o := fun {b o} b1 q => by
    rw [upd_ne b1, upd_ne (ne_of_none q hnd)]
    exact q
  have U : Un X.fs [] H (upd (upd H dx (exd dx [(f, y)])) a (exo a C (some dx))) hp h' := {
    keep := fun b o q n _ _ => k b o (na n) q
    slot := fun b o q n _ _ => ⟨o.slots, k b o (na n) q⟩
    free := fun b o q n _ => (upd_ne (na n)).trans ((upd_ne (nd q)).trans n)
    there := fun b o q _ => by
      by_cases hb : b = a
      · exact ⟨_, hb ▸ hx⟩
      · exact ⟨o, k b o hb q⟩
    tups := fun b xs q => ne (at_ne e q exo_tup) q
    frzs := fun b o v q => ne (at_ne e q exo_frz) q
    tbls := fun b ps q => ⟨#[], by rw [ne (at_ne e q exo_tbl) q]; simp⟩ }
  refine h dx _ hnd dne (I.un (t' := tk') U fun b o q => ?_)
  by_cases hb : b = a
  · subst hb
    rw [upd_same] at q
    cases q
    exact exo_ok hx
  · rw [upd_ne hb] at q
    by_cases hd : b = dx
    · subst hd
      rw [upd_same] at q
      cases q
      exact exd_ok hn (relO_put (fs := []) ry fun g => True.intro)
    · rw [upd_ne hd] at q
      refine (I.hok b o q).stay (fun c v hc z => k c v ?_ z) (fun c hc => ne (at_ne e hc exo_own) hc) fun c xs hc => ne (at_ne e hc exo_tup) hc
      rcases hc with hc | hc
      · rw [hc]
        exact hb
      · exact at_ne e hc exo_own
theorem ostG_old (T : OxG X.K C B newId initId bm) (I : Inv X pins σ H s) (e : H a = some (exo a C (some dx))) (ed : H dx = some (exd dx fs)) (hl : fs.length ≤ 900) (hno : PySem.W.findIn X.K (.ref C) f = some none) (ry : RelV y u)
    (h : ∀ s', Inv X pins σ (upd H dx (exd dx ((f, y) :: fs))) s' → Q () s') : wpAny (model X.prog X.w) A (setAttr (.ref a) f u) Q E s := by
  obtain ⟨t1, ho⟩ := exo_at I.hok e
  obtain ⟨mA, hns, rel⟩ := exd_at I.hok ed
  have hw := within_of rel
  obtain ⟨hp, g, d, t, os⟩ := s
  obtain ⟨oD, _, _, hoD, _, _⟩ := hns.count hw
  refine PySem.W.set_plain I.kIn (od := some oD) ⟨ho, rfl, rfl, hoD⟩ T.sa (osg_old T I.kIn ho hns hw (by rw [List.length_map]; omega) hno fun h' tk' k hn => ?_)
  have hd : ∃ o, h'.get? dx = some o := let ⟨o, _, _, e', _⟩ := hn; ⟨o, e'⟩
  exact h _ (I.write (t' := tk') (x := dx) (e := dx) (o := exd dx ((f, y) :: fs)) (by rw [ed]; exact True.intro) (.inl rfl) k hd (exd_ok hn (relO_put ry rel)))
end
/-- self.f = e, in an __init__ -/
def tOsG (K : PySem.W.Frag) (f : Str) (to te : TE) : TS := fun D σ H => te σ H fun y H1 => to σ H1 fun x H2 => ∃ (a C : Addr) (B n1 n2 : String) (bm : List Value), x = .ref a ∧ OxG K C B n1 n2 bm ∧ PySem.W.findIn K (.ref C) f = some none ∧
  ((H2 a = some (exo a C none) ∧ ∀ dx, H2 dx = none → dx ≠ a → D.nx σ (upd (upd H2 dx (exd dx [(f, y)])) a (exo a C (some dx)))) ∨ ∃ (dx : Addr) (fs : List (Str × V)), H2 a = some (exo a C (some dx)) ∧ H2 dx = some (exd dx fs) ∧ fs.length ≤ 900 ∧ D.nx σ (upd H2 dx (exd dx ((f, y) :: fs))))
/-- a new error as a value, its __init__ keeping sp -/
def qMkV (C : Addr) (sp : Sp) (vs : List V) (H1 : Hp) (Q : VK) : Prop := vs.length ≤ 1000 ∧ ∀ a, H1 a = none → sp (.ref a :: vs) (upd H1 a (exo a C none))
  (fun v H2 => v = .non ∧ ((H2 a = some (exo a C none) ∧ Q (.ref a) (upd H2 a (ExK (.ref C) none a))) ∨ ∃ (d : Addr) (fs : List (Str × V)), H2 a = some (exo a C (some d)) ∧ H2 d = some (exd d fs) ∧ d ≠ a ∧ Q (.ref a) (upd (upd H2 a (ExK (.ref C) (some d) a)) d (.xd fs)))) (fun _ _ _ => False)
section
variable {X : Cx} {o e : Expr} {es : List Expr} {to te : TE} {ta : TA} {f : Str} {p p' p1 p2 pos : Pos}
theorem ps_osG (ho : PE X o to) (he : PE X e te) (hs : swapsWith e (some (.Attribute o f p')) pos.line X.env = pure false := by rfl) : PS X (.Assign [.Attribute o f p'] e pos) (tOsG X.K f to te) := by
  refine ⟨fun pins s σ H D I h => plainObj_wpAny_Assign_Attribute (thn (he.run pins s σ H _ I h) fun v s1 ⟨y, H1, I1, r1, q1⟩ => thn (ho.run pins s1 σ H1 _ I1 q1) fun u s2 ⟨x, H2, I2, r2, a, C, B, n1, n2, bm, ex, T, hno, q⟩ => ?_) hs⟩
  subst ex
  obtain rfl : u = Value.ref a := r2
  rcases q with ⟨ea, q⟩ | ⟨dx, fs, ea, ed, hl, q⟩
  · exact ostG_new T I2 ea hno r1 fun dx s' n ne J => ⟨σ, _, J, q dx n ne⟩
  · exact ostG_old T I2 ea ed hl hno r1 fun s' J => ⟨σ, _, J, q⟩
/-- the call of the class -/
theorem mkG_call {C fI : Addr} {k : Nat} {fd : FuncData} {ps : List Str} {sp : Sp} {B newId initId : String} {bm : List Value} {pins : List (Addr × Obj)} {σ : L2.St} {H1 : Hp} {s1 : Shared} {vs : List V} {us : List Value} {Q : VK}
    (T : OxG X.K C B newId initId bm) (iC : PySem.W.findIn X.K (.ref C) "__init__" = some (some (.ref fI))) (tI : PySem.W.typeIn X.K (.ref fI) = some (.type "function")) (F1 : FnOk X.prog X.w X.K X.mg X.base CX0 k fI fd ps sp) (hr : Room (k + 1) X.A) (hb : Binds X.K fd ps [])
    (I1 : Inv X pins σ H1 s1) (r1 : Vals vs us) (hq : qMkV C sp vs H1 Q) : wpAny (model X.prog X.w) X.A (call (.ref C) us) (fun u s' => ∃ v H', Inv X pins σ H' s' ∧ RelV v u ∧ Q v H') X.xe s1 := by
  obtain ⟨hz, q1⟩ := hq
  obtain ⟨hp, g, dr, tk, os⟩ := s1
  obtain ⟨nm, N, q, bs, bm2, hdct, sn, sub, ab, col, dd, k0, k1, k2, k3, k5, hC, hT⟩ := PySem.W.excInit_of I1.kIn T.i
  have hsz : hp.objs.size ≤ hp.objs.size + 1 := Nat.le_succ _
  have hn : H1 (hp.objs.size + 1) = none := I1.hok.fresh hsz
  have hq := q1 (hp.objs.size + 1) hn
  have kk : ∀ b o, hp.get? b = some o → ((hp.push (PySem.W.kdv_tup us)).push (HandSPX.excO C hp.objs.size)).get? b = some o := fun b o e => Heap.get?_push_of_some _ (Heap.get?_push_of_some _ e)
  have hget : ((hp.push (PySem.W.kdv_tup us)).push (HandSPX.excO C hp.objs.size)).get? (hp.objs.size + 1) = some (HandSPX.excO C hp.objs.size) := by heap_get
  have I2 : Inv X pins σ (upd H1 (hp.objs.size + 1) (exo (hp.objs.size + 1) C none)) ⟨(hp.push (PySem.W.kdv_tup us)).push (HandSPX.excO C hp.objs.size), g, dr, tk, os⟩ :=
    I1.laid (t' := tk) (a := hp.objs.size + 1) (o := exo (hp.objs.size + 1) C none) kk hsz (exo_ok hget)
  have r2 : Vals (V.ref (hp.objs.size + 1) :: vs) (Value.ref (hp.objs.size + 1) :: us) := .cons rfl r1
  have hl : (Value.ref (hp.objs.size + 1) :: us ++ []).length = ps.length := by
    rw [List.append_nil, ← r2.length]
    exact F1.len _ _ _ _ hq
  have hus : us.length ≤ sizeLine := by
    rw [← r1.length, sizeLine_eq]
    omega
  have bd := hb ⟨(hp.push (PySem.W.kdv_tup us)).push (HandSPX.excO C hp.objs.size), g, dr, tk, os⟩ (Value.ref (hp.objs.size + 1) :: us) I2.kIn hl
  rw [List.append_nil] at bd
  refine wpAny_call (HandSPX.call_own T.F hT hC (PySem.W.looks_findIn I1.kIn iC) (fun self => PySem.W.bind_fn I1.kIn self tI) hus
    (codeAny_mono (F1.run _ X.stack _ _ ⟨Value.ref (hp.objs.size + 1) :: us, []⟩ (Value.ref (hp.objs.size + 1) :: us) _ _ (fun _ _ _ => False) (hr.make C us []) (I2.env0.make C us []) bd r2 hq) fun r s' hq' => ?_))
  match r, hq' with
  | .error er, hq' => exact hq'.elim
  | .ok .next, hq' => exact hq'.elim
  | .ok .brk, hq' => exact hq'.elim
  | .ok .cont, hq' => exact hq'.elim
  | .ok (.ret u), ⟨v, H2, os2, bare2, un2, hok2, rv, ev, q2⟩ =>
    subst ev
    obtain ⟨h2, g2, d2, t2, os'⟩ := s'
    obtain rfl : u = Value.none := rv
    have nha : ∀ {b : Addr} {o : Obj}, hp.get? b = some o → b ≠ hp.objs.size + 1 := fun {b o} z => Nat.ne_of_lt (Nat.lt_of_lt_of_le (Heap.lt_size z) hsz)
    have up : ∀ {b : Addr} {o : Option HO}, b ≠ hp.objs.size + 1 → H1 b = o → upd H1 (hp.objs.size + 1) (exo (hp.objs.size + 1) C none) b = o := fun {b o} hb n => by rw [upd_ne hb]; exact n
    have U0 : ∀ {H3 : Hp}, (∀ b o, hp.get? b = some o → H1 b = none → H3 b = none) → (∀ b o, H2 b = some o → (∃ xs, o = .tup xs) ∨ (∃ u v, o = .frz u v) ∨ (∃ ps, o = .tbl ps) → H3 b = some o) → Un (frs X.stack) [] H1 H3 hp h2 := fun {H3} fr ke => {
      keep := fun b o z n hf hx => un2.keep b o (kk b o z) (up (nha z) n) hf hx
      slot := fun b o z n hf hx => un2.slot b o (kk b o z) (up (nha z) n) hf hx
      free := fun b o z n hx => fr b o z n
      there := fun b o z hx => un2.there b o (kk b o z) hx
      tups := fun b xs z => ke b _ (un2.tups b xs (up (ne_of_none z hn) z)) (.inl ⟨xs, rfl⟩)
      frzs := fun b o v z => ke b _ (un2.frzs b o v (up (ne_of_none z hn) z)) (.inr (.inl ⟨o, v, rfl⟩))
      tbls := fun b ps z => by
        obtain ⟨more, z2⟩ := un2.tbls b ps (up (ne_of_none z hn) z)
        exact ⟨more, ke b _ z2 (.inr (.inr ⟨_, rfl⟩))⟩ }
    have fr2 : ∀ {b : Addr} {o : Obj}, hp.get? b = some o → H1 b = none → H2 b = none := fun {b o} z n => un2.free b o (kk b o z) (up (nha z) n) (by simp)
    refine ⟨rfl, ?_⟩
    rcases q2 with ⟨ea, qq⟩ | ⟨d, fs, ea, ed, hda, qq⟩
    · obtain ⟨t0, hoe⟩ := exo_at hok2 ea
      refine ⟨.ref _, _, I1.call' (ch := []) os2 (U0 (fun b o z n => ?_) fun b o z ho => ?_) (fun b o z => ?_) bare2 (fun b z => absurd z (by simp)), rfl, qq⟩
      · rw [upd_ne (nha z)]
        exact fr2 z n
      · rw [upd_ne (fun hb => ?_)]
        · exact z
        · rw [hb, ea] at z
          have z := Option.some.inj z
          rcases ho with ⟨_, ho⟩ | ⟨_, _, ho⟩ | ⟨_, ho⟩ <;> (rw [ho] at z; cases z)
      · by_cases hb : b = hp.objs.size + 1
        · subst hb
          rw [upd_same] at z
          cases z
          exact exk_ok hoe ⟨rfl, rfl⟩ rfl
        · rw [upd_ne hb] at z
          exact (hok2 b o z).stay (fun c v hc y => y) (fun c hc => (upd_ne (at_ne ea hc exo_own)).trans hc) fun c xs hc => (upd_ne (at_ne ea hc exo_tup)).trans hc
    · obtain ⟨t0, hoe⟩ := exo_at hok2 ea
      obtain ⟨mA, hns, rel⟩ := exd_at hok2 ed
      have nd : ∀ {b : Addr} {o : Obj}, hp.get? b = some o → H1 b = none → b ≠ d := fun {b o} z n e => by
        have y := fr2 z n
        rw [e, ed] at y
        cases y
      have keep : ∀ {b : Addr} {o : HO}, b ≠ hp.objs.size + 1 → b ≠ d → H2 b = some o → upd (upd H2 (hp.objs.size + 1) (ExK (.ref C) (some d) (hp.objs.size + 1))) d (.xd fs) b = some o := fun {b o} b1 b2 z => by
        rw [upd_ne b2, upd_ne b1]
        exact z
      refine ⟨.ref _, _, I1.call' (ch := []) os2 (U0 (fun b o z n => ?_) fun b o z ho => ?_) (fun b o z => ?_) bare2 (fun b z => absurd z (by simp)), rfl, qq⟩
      · rw [upd_ne (nd z n), upd_ne (nha z)]
        exact fr2 z n
      · refine keep (fun hb => ?_) (fun hb => ?_) z
        · rw [hb, ea] at z
          have z := Option.some.inj z
          rcases ho with ⟨_, ho⟩ | ⟨_, _, ho⟩ | ⟨_, ho⟩ <;> (rw [ho] at z; cases z)
        · rw [hb, ed] at z
          have z := Option.some.inj z
          rcases ho with ⟨_, ho⟩ | ⟨_, _, ho⟩ | ⟨_, ho⟩ <;> (rw [ho] at z; cases z)
      · by_cases hbd : b = d
        · subst hbd
          rw [upd_same] at z
          cases z
          exact ⟨mA, hns, rel⟩
        · rw [upd_ne hbd] at z
          by_cases hb : b = hp.objs.size + 1
          · subst hb
            rw [upd_same] at z
            cases z
            exact exk_ok hoe ⟨rfl, rfl⟩ rfl
          · rw [upd_ne hb] at z
            exact (hok2 b o z).stay (fun c v hc y => y) (fun c hc => keep (at_ne ea hc exo_own) (at_ne ed hc exd_own) hc) fun c xs hc => keep (at_ne ea hc exo_tup) (at_ne ed hc exd_tup) hc
theorem pe_mkG {x : Str} {C fI : Addr} {k : Nat} {fd : FuncData} {ps : List Str} {sp : Sp} {B newId initId : String} {bm : List Value} (T : OxG X.K C B newId initId bm) (iC : PySem.W.findIn X.K (.ref C) "__init__" = some (some (.ref fI))) (tI : PySem.W.typeIn X.K (.ref fI) = some (.type "function"))
    (F1 : FnOk X.prog X.w X.K X.mg X.base CX0 k fI fd ps sp) (hr : Room (k + 1) X.A) (hb : Binds X.K fd ps []) (hg : Gl X x) (hm : X.mg x = some (.ref C)) (ha : PA X (e :: es) ta)
    (hdb : (x == ("__debug__" : Str)) = false := by decide) (he : starEach (e :: es) X.env = (false, eval e X.env) :: starEach es X.env := by rfl) (hpl : (backTo pos (starEach es X.env)).any (·.1) = false := by rfl) :
    PE X (.Call (.Name x p) (e :: es) [] pos) (fun σ H Q => ta σ H fun vs H1 => qMkV C sp vs H1 Q) := by
  refine ⟨fun pins s σ H Q I h => wpAny_Call_Name_kw (ld_glob I hg hm ?_ hdb)⟩
  exact PySem.W.callWith_K (h₀ := X.base) I.ok.mod.kin T.k (thn (ha.run pos pins s σ H _ I h) fun us s1 ⟨vs, H1, I1, r1, hq⟩ => ⟨I1.kIn, mkG_call T iC tI F1 hr hb I1 r1 hq⟩) he hpl
theorem pe_mkG0 {x : Str} {C fI : Addr} {k : Nat} {fd : FuncData} {ps : List Str} {sp : Sp} {B newId initId : String} {bm : List Value} (T : OxG X.K C B newId initId bm) (iC : PySem.W.findIn X.K (.ref C) "__init__" = some (some (.ref fI))) (tI : PySem.W.typeIn X.K (.ref fI) = some (.type "function"))
    (F1 : FnOk X.prog X.w X.K X.mg X.base CX0 k fI fd ps sp) (hr : Room (k + 1) X.A) (hb : Binds X.K fd ps []) (hg : Gl X x) (hm : X.mg x = some (.ref C)) (hdb : (x == ("__debug__" : Str)) = false := by decide) :
    PE X (.Call (.Name x p) [] [] pos) (fun σ H Q => qMkV C sp [] H Q) := by
  refine ⟨fun pins s σ H Q I h => wpAny_Call_Name_kw (ld_glob I hg hm ?_ hdb)⟩
  exact PySem.W.callWith_K0 I.kIn T.k (mkG_call (us := []) T iC tI F1 hr hb I .nil h)
end
end Kp


namespace Kp
open PySem PySem.Spec PyProof.Rows L2
/-! ### errors as values, over data -/
section
variable {X : Cx} {w0 : Wl} {ss : SS} {a b : Expr} {pos : Pos} {R : AV → Prop}
/-- text times a number -/
def repS (z : Str) (k : Int) : Str := if k < 1 then Str.empty else if (k == 1 || z.length == 0) = true then z else ⟨(List.replicate k.toNat z.cps).foldl (· ++ ·) #[]⟩
theorem op_repS : OpR X (binaryOp .Mult) (fun x y H Q => ∃ z k, x = .str z ∧ y = .int k ∧ (0 ≤ k ∧ k ≤ 1000 ∧ z.length ≤ 1000) ∧ Q (.str (repS z k)) H) := by
  intro pins s σ H x y v u Q I rx ry h
  obtain ⟨z, k, rfl, rfl, ⟨k0, k1, hz⟩, q⟩ := h
  obtain ⟨t, rfl⟩ := rx
  obtain ⟨t', rfl⟩ := ry
  have hm : z.length * k.toNat ≤ 1000000 := Nat.le_trans (Nat.mul_le_mul hz (show k.toNat ≤ 1000 by omega)) (by decide)
  have hlong : PySem.Builtin.Str.tooLong (z.length * k.toNat) = false := by
    unfold PySem.Builtin.Str.tooLong
    exact decide_eq_false (by rw [sizeLine_eq]; omega)
  refine PySem.P.mul_str (by rw [decide_eq_false (by omega), decide_eq_false (by omega)]; rfl) (fun h1 h2 => ?_) (fun _ _ => hlong) ?_
  · have : (1000 : Int) ≤ (2 ^ 63 - 1) / k := (Int.le_ediv_iff_mul_le (by omega)).mpr (by omega)
    omega
  · unfold repS at q
    by_cases h1 : k < 1
    · rw [if_pos h1] at q ⊢
      exact ⟨by decide, .str Str.empty, H, I.tok _, ⟨_, rfl⟩, q⟩
    · rw [if_neg h1] at q ⊢
      by_cases h2 : (k == 1 || z.length == 0) = true
      · rw [if_pos h2] at q ⊢
        exact ⟨.str z, H, I, ⟨_, rfl⟩, q⟩
      · rw [if_neg h2] at q ⊢
        exact ⟨fits_reps hlong, .str _, H, I.tok _, ⟨_, rfl⟩, q⟩
theorem k_mulS (h : KE X w0 a ss fun x => KE X w0 b ss fun y => ∃ z k, x = .dat (.str z) ∧ y = .dat (.int k) ∧ (0 ≤ k ∧ k ≤ 1000 ∧ z.length ≤ 1000) ∧ R (.dat (.str (repS z k)))) : KE X w0 (.BinOp a .Mult b pos) ss R :=
  k_op op_repS (KE.weak h fun x hx => KE.weak hx fun y hy vx vy w Q ax ay q => by
    obtain ⟨z, k, rfl, rfl, hc, hr⟩ := hy
    cases ax
    cases ay
    exact ⟨z, k, rfl, rfl, hc, go q (.str _) hr⟩)
theorem AvA.at {K : PySem.W.Frag} {w : Wl} {vs : List V} {as : List AV} {i : Int} {d : AV} (h : AvA K w vs as) (e : atI as i = some d) : ∃ v, atI vs i = some v ∧ Av K w v d := by
  unfold atI at e ⊢
  rw [h.length]
  cases q : ixN as.length i with
  | none => (rw [q] at e; cases e)
  | some j =>
    rw [q] at e
    exact h.get (show as[j]? = some d from e)
/-- one of what a list display holds, whatever it be -/
theorem k_pickE {es : List Expr} {p2 : Pos} (hp : PlainIx b) (h : KA X w0 es ss fun as => as.length ≤ 1000 ∧ KE X w0 b ss fun y => ∃ i x, y = .dat (.int i) ∧ atI as i = some x ∧ R x) : KE X w0 (.Subscript (.List es p2) b pos) ss R :=
  PE.imp (pe_ix ix_seq (pe_lst h) (pe_an (w0 := w0) (ss := ss)) hp) fun σ H Q ⟨w, ew, hs, q⟩ => ⟨w, ew, hs, fun vs as w1 l1 hvs hk => by
    obtain ⟨hz, hk⟩ := hk
    refine ⟨by rw [hvs.length]; exact Nat.le_trans hz (by decide), fun p hp => ?_⟩
    have le := Le.own (w := w1) (o := .lst vs) hp
    refine ⟨_, hk, w1.own p (.lst vs) (w1.gfree hp), rfl, (hs.mono l1).mono le, fun v2 y w2 l2 hv2 hy => ?_⟩
    obtain ⟨i, x, rfl, e, hr⟩ := hy
    cases hv2
    obtain ⟨v, e1, e2⟩ := ((hvs.mono le).mono l2).at e
    exact .inl ⟨_, _, _, v, rfl, rfl, .inl (.inl (l2.h _ _ upd_same)), e1, q v x w2 (l1.trans (le.trans l2)) e2 hr⟩⟩
/-- an own error's __init__ that keeps nothing -/
def spInit0 (C : Addr) : Sp := fun vs H Q _ => ∃ a : Addr, vs = [.ref a] ∧ H a = some (exo a C none) ∧ Q .non H
theorem k_mkE {x : Str} {C fI : Addr} {k : Nat} {fd : FuncData} {ps ns : List Str} {B n1 n2 : String} {bm : List Value} {e : Expr} {es : List Expr} {p : Pos} (T : OxG X.K C B n1 n2 bm) (iC : PySem.W.findIn X.K (.ref C) "__init__" = some (some (.ref fI)))
    (tI : PySem.W.typeIn X.K (.ref fI) = some (.type "function")) (F1 : FnOk X.prog X.w X.K X.mg X.base CX0 k fI fd ps (spInit C ns)) (hr : Room (k + 1) X.A) (hb : Binds X.K fd ps []) (hg : Gl X x) (hm : X.mg x = some (.ref C))
    (h : KA X w0 (e :: es) ss fun as => onDats as fun ds => ds.length = ns.length ∧ ds.length ≤ 1000 ∧ R (.err C (ns.zip ds).reverse))
    (hdb : (x == ("__debug__" : Str)) = false := by decide) (he : starEach (e :: es) X.env = (false, eval e X.env) :: starEach es X.env := by rfl) (hpl : (backTo pos (starEach es X.env)).any (·.1) = false := by rfl) : KE X w0 (.Call (.Name x p) (e :: es) [] pos) ss R :=
  PE.imp (pe_mkG T iC tI F1 hr hb hg hm h hdb he hpl) fun σ H Q ⟨w, ew, hs, q⟩ => ⟨w, ew, hs, fun vs as w1 l1 hvs hk => by
    obtain ⟨ds, rfl, hl, hz, hR⟩ := hk.of
    have hd := AvA.dats hvs
    refine ⟨by rw [hd.length]; exact hz, fun a ha => ⟨a, vs, rfl, by rw [hd.length]; exact hl, upd_same, fun dx H' h1 h2 h3 h4 h5 => ⟨rfl, .inr ⟨dx, _, h3, h4, h2, ?_⟩⟩⟩⟩
    have h1' : w1.h dx = none := by
      rw [upd_ne h2] at h1
      exact h1
    have hd2 : (w1.put a (ExK (.ref C) (some dx) a)).h dx = none := (upd_ne h2).trans h1'
    have le := (Le.put (o := ExK (.ref C) (some dx) a) ha).trans (Le.put (o := .xd (ns.zip vs).reverse) hd2)
    have eh : upd (upd H' a (ExK (.ref C) (some dx) a)) dx (.xd (ns.zip vs).reverse) = ((w1.put a (ExK (.ref C) (some dx) a)).put dx (.xd (ns.zip vs).reverse)).h := by
      funext b
      show _ = upd (upd w1.h a _) dx _ b
      by_cases b1 : b = dx
      · rw [b1, upd_same, upd_same]
      · rw [upd_ne b1, upd_ne b1]
        by_cases b2 : b = a
        · rw [b2, upd_same, upd_same]
        · rw [upd_ne b2, upd_ne b2, h5 b b2 b1, upd_ne b2]
    rw [eh]
    refine q (.ref a) (.err C (ns.zip ds).reverse) _ (l1.trans le) ⟨a, some dx, (ns.zip vs).reverse, rfl, ?_, upd_same, ((FdA.zip ns hd).rev).mono le.g⟩ hR
    exact (upd_ne (Ne.symm h2)).trans upd_same⟩
theorem k_mkE0 {x : Str} {C fI : Addr} {k : Nat} {fd : FuncData} {ps : List Str} {B n1 n2 : String} {bm : List Value} {p : Pos} (T : OxG X.K C B n1 n2 bm) (iC : PySem.W.findIn X.K (.ref C) "__init__" = some (some (.ref fI)))
    (tI : PySem.W.typeIn X.K (.ref fI) = some (.type "function")) (F1 : FnOk X.prog X.w X.K X.mg X.base CX0 k fI fd ps (spInit0 C)) (hr : Room (k + 1) X.A) (hb : Binds X.K fd ps []) (hg : Gl X x) (hm : X.mg x = some (.ref C)) (hR : R (.err C []))
    (hdb : (x == ("__debug__" : Str)) = false := by decide) : KE X w0 (.Call (.Name x p) [] [] pos) ss R :=
  PE.imp (pe_mkG0 T iC tI F1 hr hb hg hm hdb) fun σ H Q ⟨w, ew, hs, q⟩ => by
    subst ew
    refine ⟨Nat.zero_le _, fun a ha => ⟨a, rfl, upd_same, rfl, .inl ⟨upd_same, ?_⟩⟩⟩
    have eh : upd (upd w.h a (exo a C none)) a (ExK (.ref C) none a) = (w.put a (ExK (.ref C) none a)).h := by
      funext b
      show _ = upd w.h a _ b
      by_cases b1 : b = a
      · rw [b1, upd_same, upd_same]
      · rw [upd_ne b1, upd_ne b1, upd_ne b1]
    rw [eh]
    exact q (.ref a) (.err C []) _ (Le.put ha) ⟨a, none, [], rfl, upd_same, rfl, rfl, .nil⟩ hR
/-! ### kinds of own errors -/
def noRef : List Value → Bool
  | [] => true
  | .type _ :: l => noRef l
  | _ :: _ => false
theorem noRef_not {C : Addr} : ∀ {l : List Value}, noRef l = true → l.contains (.ref C) = false
  | [], _ => rfl
  | .type T :: l, h => by
    rw [List.contains_cons, noRef_not (l := l) h]
    rfl
end
/-- what the top says of an own error class: its name, its fields, what stands above it -/
structure ErK (K : PySem.W.Frag) (mg : Str → Option Value) (x qual : Str) (fs : List Str) (tl : List Value) (st : Stmt) (ps : List Str) (C : Addr) : Prop where
  ox : ∃ B n1 n2, OxG K C B n1 n2 tl
  nm : ∃ cd, PySem.W.clsIn K C = some cd ∧ cd.name = x ∧ cd.mro = .ref C :: tl
  tl : noRef tl = true
  fI : ∃ (fI : Addr) (fd : FuncData), PySem.W.findIn K (.ref C) "__init__" = some (some (.ref fI)) ∧ PySem.W.typeIn K (.ref fI) = some (.type "function") ∧ Fun K "__init__" qual st fI fd ∧ Binds K fd ps []
  m : mg x = some (.ref C)
  ty : PySem.W.typeIn K (.ref C) = some (.type "type")
  no : ∀ f ∈ fs, PySem.W.findIn K (.ref C) f = some none
  xf : XfC K C
  ex : ExcC K C
section
variable {K : PySem.W.Frag} {mg : Str → Option Value} {x x2 qual q2 : Str} {fs f2 : List Str} {tl t2 : List Value} {st st2 : Stmt} {ps ps2 : List Str} {C D : Addr}
theorem ErK.kit (h : ErK K mg x qual fs tl st ps D) (g : ErK K mg x2 q2 f2 t2 st2 ps2 C) : PySem.W.kitOne K (.ref D) (.ref C) = some (decide (x2 = x)) := by
  obtain ⟨cd, h1, h2, h3⟩ := h.nm
  obtain ⟨ce, g1, g2, g3⟩ := g.nm
  unfold PySem.W.kitOne
  by_cases e : C = D
  · subst e
    rw [h1] at g1
    cases g1
    rw [if_pos (beq_self_eq_true _), ← h2, ← g2, decide_eq_true rfl]
  · have e2 : (Value.ref D == Value.ref C) = false := beq_eq_false_iff_ne.mpr fun z => e (Value.ref.inj z).symm
    rw [e2, if_neg Bool.false_ne_true]
    have hne : ¬ x2 = x := fun z => by
      have hm := h.m
      have gm := g.m
      rw [z, hm] at gm
      exact e (Value.ref.inj (Option.some.inj gm)).symm
    rw [decide_eq_false hne]
    have e3 : ((PySem.W.clsIn K C).isSome && PySem.W.typeIn K (.ref C) == some (.type "type")) = true := by
      rw [g1, g.ty]
      exact Bool.and_eq_true_iff.mpr ⟨rfl, beq_self_eq_true _⟩
    show (if _ then PySem.W.subIn K (.ref D) (.ref C) else none) = _
    rw [if_pos e3]
    show PySem.W.mroIn K D (.ref C) = _
    unfold PySem.W.mroIn
    rw [h1, Option.bind_some, h3, if_neg (show ¬ (List.isEmpty (Value.ref D :: tl) = true) from Bool.false_ne_true), List.contains_cons, noRef_not h.tl]
    rw [beq_eq_false_iff_ne.mpr fun z => e (Value.ref.inj z)]
    rfl
theorem ErK.kitT (h : ErK K mg x qual fs tl st ps D) {T : String} (hT : PySem.W.kitMeta T = true) : PySem.W.kitOne K (.ref D) (.type T) = some (tl.contains (.type T)) := by
  obtain ⟨cd, h1, h2, h3⟩ := h.nm
  unfold PySem.W.kitOne
  have e2 : (Value.ref D == Value.type T) = false := beq_eq_false_iff_ne.mpr fun z => by cases z
  rw [e2, if_neg Bool.false_ne_true]
  show (if _ then PySem.W.subIn K (.ref D) (.type T) else none) = _
  rw [if_pos hT]
  show PySem.W.mroIn K D (.type T) = _
  unfold PySem.W.mroIn
  rw [h1, Option.bind_some, h3, if_neg (show ¬ (List.isEmpty (Value.ref D :: tl) = true) from Bool.false_ne_true), List.contains_cons]
  rw [beq_eq_false_iff_ne.mpr fun z => by cases z]
  rfl
end
end Kp


namespace Kp
open PySem PySem.Spec PyProof.Rows L2
/-! ### texts split, figures read, lists of the store put together -/
theorem split_join {c : Nat} (hc : c < 256) {ys : List Str} (hne : ys ≠ []) (h : ∀ y ∈ ys, c ∉ y.cps.toList) : Txt.split (Txt.join ⟨#[c]⟩ ys) ⟨#[c]⟩ = ys := by
  have e : (ys.map TL.tl).map SX.S = ys := by
    rw [List.map_map]
    exact (List.map_congr_left fun x _ => TL.mk_tl x).trans (List.map_id ys)
  have k : Txt.split (Txt.join (SX.S [c]) ((ys.map TL.tl).map SX.S)) (SX.S [c]) = (ys.map TL.tl).map SX.S := by
    rw [SX.join_S, SX.split_S (List.cons_ne_nil _ _) (by rw [List.all_cons]; simp [hc]), SX.spl_join (by simpa using hne) fun p hp => ?_]
    obtain ⟨y, hy, rfl⟩ := List.mem_map.mp hp
    exact h y hy
  rw [e] at k
  exact k
section
variable {X : Cx} {w0 : Wl} {ss : SS} {st : Store} {a b : Expr} {pos : Pos}
theorem k_split {R : AV → Prop} {o e : Expr} {apos : Pos} (h : KE X w0 o ss fun x => ∃ z : Str, x = .dat (.str z) ∧ KE X w0 e ss fun y => ∃ t : Str, y = .dat (.str t) ∧ (t.length == 0) = false ∧ z.length ≤ 1000000 ∧ R (.dat (.list ((Txt.split z t).map .str))))
    (hs : starEach [e] X.env = [(false, eval e X.env)] := by rfl) (hbase : attributeBase o "split" X.env (eval o X.env) = eval o X.env := by rfl) (hline : (apos.endLine == pos.line) = true := by rfl) : KE X w0 (.Call (.Attribute o "split" apos) [e] [] pos) ss R :=
  PE.imp (pe_split h (pe_an (w0 := w0) (ss := ss)) hs hbase hline) fun σ H Q ⟨w, ew, hsl, q⟩ => ⟨w, ew, hsl, fun v x w1 l1 hv hk => by
    obtain ⟨z, rfl, hk⟩ := hk
    cases hv
    refine ⟨⟨z, rfl⟩, _, hk, w1, rfl, hsl.mono l1, fun v2 y w2 l2 hv2 hy => ?_⟩
    obtain ⟨t, rfl, ht, hz, hr⟩ := hy
    cases hv2
    refine ⟨z, t, rfl, rfl, ht, Nat.le_trans (Nat.add_le_add_right hz 2) (by decide), fun p hp => ?_⟩
    exact q (.ref p) (.dat (.list _)) (w2.put p (.lst _)) ((l1.trans l2).trans (Le.put hp)) (.lst upd_same (DdA.ofStrs _)) hr⟩
theorem kn_slc {lo hi : Option Expr} {p2 : Pos} {R : List PyData → Prop} (h : KE X w0 a ss fun x => onList x fun ds => KO X w0 lo ss fun l => KO X w0 hi ss fun u => R (cutD ds l u)) : KN X w0 (.Subscript a (.Slice lo hi none p2) pos) ss R :=
  PE.imp (pe_slice sl_list h (po_an (w0 := w0) (ss := ss)) (po_an (w0 := w0) (ss := ss))) fun σ H Q ⟨w, ew, hs, q⟩ => ⟨w, ew, hs, fun v x w1 l1 hv hk => by
    have hk : onList x fun ds => KO X w0 lo ss fun l => KO X w0 hi ss fun u => R (cutD ds l u) := hk
    unfold onList at hk
    split at hk
    · refine ⟨_, hk, w1, rfl, hs.mono l1, fun l w2 l2 hk2 => ⟨_, hk2, w2, rfl, (hs.mono l1).mono l2, fun u w3 l3 hk3 => ?_⟩⟩
      have hv3 := (hv.mono l2).mono l3
      cases hv3 with
      | lst h1 d1 =>
        exact ⟨_, _, rfl, .inl (.inl (w3.sub _ _ h1)), fun p hp => q p _ _ (w3.own p (.lst _) (w3.gfree hp)) (l1.trans (l2.trans (l3.trans (Le.own hp)))) (exFree (l1.trans (l2.trans l3)).h hp) upd_same (w3.gfree hp) ((d1.cut l u).mono (Le.own hp).g) hk3⟩
    · exact hk.elim⟩
/-- a list or a tuple of the store, not an instance -/
abbrev InSq (st : Store) (p : Addr) (t : Ck) (as : List AV) : Prop := match t with
  | .ins _ _ _ => False
  | t => (p, t, as) ∈ st
theorem InSq.mem {st : Store} {p : Addr} {t : Ck} {as : List AV} (h : InSq st p t as) : (p, t, as) ∈ st ∧ ∀ C dx ks, t ≠ .ins C dx ks := by
  cases t with
  | ins C dx ks => exact h.elim
  | lst => exact ⟨h, fun _ _ _ e => nomatch e⟩
  | tup => exact ⟨h, fun _ _ _ e => nomatch e⟩
  | dct m => exact ⟨h, fun _ _ _ e => nomatch e⟩
theorem k_idxM {R : AV → Prop} (hp : PlainIx b) (h : KE X (w0.at st) a ss fun x => ∃ p t as, x = .at_ p ∧ InSq st p t as ∧ KE X (w0.at st) b ss fun y => ∃ (i : Int) (c : AV), y = .dat (.int i) ∧ atI as i = some c ∧ R c) : KE X (w0.at st) (.Subscript a b pos) ss R :=
  PE.imp (pe_ix ix_seq h (pe_an (w0 := w0.at st) (ss := ss)) hp) fun σ H Q ⟨w, ew, hs, q⟩ => ⟨w, ew, hs, fun v x w1 l1 hv hk => by
    obtain ⟨p, t, as, rfl, m, he⟩ := hk
    obtain ⟨m, nt⟩ := m.mem
    cases hv
    refine ⟨_, he, w1, rfl, hs.mono l1, fun v2 y w2 l2 hv2 hy => ?_⟩
    obtain ⟨i, c, rfl, hi, hr⟩ := hy
    cases hv2
    obtain ⟨_, _, vs, h1, _, h3⟩ := ((hs.mono l1).mono l2).so.key m
    obtain ⟨u, e1, e2⟩ := AvA.at h3 hi
    cases t with
    | lst => exact .inl ⟨_, _, _, u, rfl, rfl, .inl (.inl h1), e1, q u c w2 (l1.trans l2) e2 hr⟩
    | tup => exact .inr (.inl ⟨_, _, _, u, rfl, rfl, .inl (.inl h1), e1, q u c w2 (l1.trans l2) e2 hr⟩)
    | ins C dx ks => exact absurd rfl (nt C dx ks)
    | dct m =>
      cases vs with
      | nil =>
        have e1 : (ixN 0 i).bind (fun j => ([] : List V)[j]?) = some u := e1
        cases h0 : ixN 0 i with
        | none => rw [h0] at e1; cases e1
        | some j => rw [h0] at e1; simp at e1
      | cons v0 r => exact .inl ⟨_, _, _, u, rfl, rfl, .inl (.inl h1), e1, q u c w2 (l1.trans l2) e2 hr⟩⟩
theorem me_cat {R : Store → AV → Prop} (h : ME X w0 a st ss fun st1 x => ∃ p as, x = .at_ p ∧ ME X w0 b st1 ss fun st2 y => ∃ q bs, y = .at_ q ∧ (p, Ck.lst, as) ∈ st2 ∧ (q, Ck.lst, bs) ∈ st2 ∧ as.length + bs.length ≤ 100000 ∧ ∀ r, Fresh st2 r → R ((r, Ck.lst, as ++ bs) :: st2) (.at_ r)) :
    ME X w0 (.BinOp a .Add b pos) st ss R :=
  PE.imp (pe_op op_cat h (pe_anM (w0 := w0))) fun σ H Q ⟨w, ew, hs, q⟩ => ⟨w, ew, hs, fun v x st1 w1 e1 hs1 hv hk => by
    obtain ⟨p, as, rfl, hb⟩ := hk
    cases hv
    refine ⟨st1, ss, _, hb, w1, rfl, hs1, fun v2 y st2 w2 e2 hs2 hv2 hy => ?_⟩
    obtain ⟨p2, bs, rfl, m1, m2, hz, hr⟩ := hy
    cases hv2
    obtain ⟨_, hp1, vs, g1, _, g3⟩ := hs2.so.key m1
    obtain ⟨_, hp2, us, k1, _, k3⟩ := hs2.so.key m2
    refine ⟨p, p2, vs, us, rfl, rfl, g1, k1, Nat.le_trans (by rw [g3.length, k3.length]; exact hz) (by decide), fun r hr0 => ?_⟩
    have hall : (as ++ bs).all AV.plain = true := by
      rw [List.all_append, hp1, hp2]
      rfl
    obtain ⟨fr, hs3⟩ := Sl.new (b := .lst) (vs := vs ++ us) (as := as ++ bs) hs2 (Le.own (o := .lst (vs ++ us)) hr0) hr0 upd_same (w2.gfree hr0) ((g3.appA k3).mono (Le.own hr0)) hall
    exact q (.ref r) (.at_ r) _ (w2.own r (.lst (vs ++ us)) (w2.gfree hr0)) (e1.trans e2) hs3 rfl (hr r fr)⟩
theorem k_neg {R : AV → Prop} (h : KE X w0 a ss fun x => onInt x fun i => R (.dat (.int (-i)))) : KE X w0 (.UnaryOp .USub a pos) ss R := k_un un_neg (KE.weak h fun x hx => by
  obtain ⟨i, rfl, hr⟩ := hx.of
  exact fun vx w Q hv q => by
    cases hv
    exact ⟨i, rfl, q (.int (-i)) (.dat (.int (-i))) w (Le.refl w) (.int _) hr⟩)
/-- a name is set to a comprehension on its line, that reads the store: a new list of it -/
theorem m_setLc (j : Nat) {ss' : SS} {x : Str} {px spos : Pos} {tg elt iter : Expr} {ifs : List Expr} {scope : Scope} {own : List (Str × Nat)} {g : TG} {T : PyData → SS → (SS → Prop) → Prop} {N : MN} (T0 : Thaw st ss ss') (hc : X.calm = true) (hN : X.N.Nodup) (hy : X.N[j]? = some x) (hyl : X.env.scope.names.lookup x = some .local) (ok : BlkOk X.N X.env.scope scope own)
    (hT : TgOk X.K w0.bare g T (own.map (·.2)))
    (hg : ∀ (s : Shared) (H : Hp) (C : Addr) (cl : List (Str × Addr)) (fp : List Addr), PG (X.blk s H scope (compEnvC scope cl C X.env) fp) tg g)
    (h : KI X w0.bare tg iter ss' fun ds => ds.length ≤ 50000 ∧ ∃ P : Nat → List PyData → Prop, P 0 [] ∧
      (∀ i d acc, ds[i]? = some d → P i acc → T d (wipeS ss' (own.map (·.2))) fun ss' => testS X w0.bare scope ifs ss' (BE X w0.bare scope elt ss' fun e => onDat e fun e => P (i + 1) (acc ++ [e])) (P (i + 1) acc)) ∧ ∀ es, P ds.length es → es.all immD = true ∧ ∀ p, Fresh st p → N.nx ((p, Ck.lst, es.map .dat) :: st) (ss.set j (some (.at_ p))))
    (hsw : swapsWith (.ListComp elt [⟨tg, iter, ifs, 0⟩] scope pos) (some (.Name x px)) spos.line X.env = pure true := by rfl) (hs : ∀ x, foldedSetIterable iter X.env x = pure x := by intro _; rfl) : MS X w0 (.Assign [.Name x px] (.ListComp elt [⟨tg, iter, ifs, 0⟩] scope pos) spos) st ss N :=
  PS.imp (ps_setLc hc hN hy hyl hsw h ok hg (pts_S (w0 := w0.bare)) (te := anBE X w0.bare scope elt) (fun s H C cl fp => ⟨fun pins s' σ H' Q I ⟨_, _, hh, q⟩ => (hh s H C cl fp).run pins s' σ H' Q I q⟩) hs) fun D σ H ⟨w, ew, hsl, d⟩ =>
    lcK (R := fun es => es.all immD = true ∧ ∀ p, Fresh st p → N.nx ((p, Ck.lst, es.map .dat) :: st) (ss.set j (some (.at_ p)))) hT σ H _ ⟨w.frz st, ew, hsl.thaw T0, fun p vs ds w1 l1 hn h1 h2 hd hk => by
      obtain ⟨fr, hs2⟩ := Sl.new (b := .lst) (as := ds.map .dat) hsl (Le.thw (w := w) (w' := w1) l1.h) hn h1 (w.gfree hn) (AvA.ofDd (w := w.thw w1 l1.h) (hd.imm hk.1)) plain_dats
      exact d.nx _ _ _ (w.thw w1 l1.h) (Ex.refl _) (hs2.set (a := .at_ p) j rfl rfl) (hk.2 p fr)⟩
theorem m_retM {e : Expr} {N : MN} (h : ME X w0 e st ss fun st' a => N.rt st' a) : MS X w0 (.Return (some e) pos) st ss N :=
  PS.imp (ps_ret h) fun D σ H ⟨w, ew, hs, d⟩ => ⟨w, ew, hs, fun v a st' w1 e1 hs1 hv hk => d.rt v a st' w1 e1 hs1.le.unat hs1.so hv hk⟩
abbrev intTS : List AV → (AV → Prop) → Prop
  | [.dat (.str z)], R => ∃ n, PySem.intText? z = some n ∧ z.length ≤ 640 ∧ R (.dat (.int n))
  | _, _ => False
theorem dl_intT : DCl X (.type "int") intTS := ⟨_, call_int_str, fun xs R hy vs w Q av q => by
  unfold intTS at hy
  split at hy
  · obtain ⟨v, rfl, hv⟩ := av.one
    obtain ⟨n, h1, h2, hr⟩ := hy
    cases hv
    exact ⟨_, n, rfl, h1, h2, go q (.int _) hr⟩
  · exact hy.elim⟩
abbrev strPS : List AV → (AV → Prop) → Prop
  | [.dat (.str z)], R => R (.dat (.str z))
  | [.dat (.int i)], R => i.natAbs.log2 < 1920 ∧ R (.dat (.str (toString i)))
  | _, _ => False
theorem dl_strP : DCl X (.type "str") strPS := ⟨_, CallR.or SkE.call_str_str call_str_int, fun xs R hy vs w Q av q => by
  unfold strPS at hy
  split at hy
  · obtain ⟨v, rfl, hv⟩ := av.one
    cases hv
    exact .inl ⟨_, rfl, go q (.str _) hy⟩
  · obtain ⟨v, rfl, hv⟩ := av.one
    obtain ⟨h1, hr⟩ := hy
    cases hv
    exact .inr ⟨_, rfl, h1, go q (.str _) hr⟩
  · exact hy.elim⟩
end
section
variable {base : Heap} {K : PySem.W.Frag} {w : World} {P : Program} {mg : Str → Option Value}
/-- a def over data that has lists of its own in a store; nothing is being shown around it -/
theorem dnGM {x : Str} {sm : Stmt} {N ps : List Str} {k : Nat} {C : List AV → (AV → Prop) → Prop} (F : Fn0 K mg x sm ps) (S : FnScope N ps (defScope sm)) (len : ∀ as R, C as R → as.length = ps.length)
    (hbody : ∀ (f : Addr) (cdv : Value) (A : Around) (outer : List Env) (s : Shared) (H : Hp) (E : XK) (w0 : Wl) (as : List AV) (R : AV → Prop), A.guards = some [] → Room k (A.deeper (envOfC x (defScope sm) s.heap.objs.size f cdv)) → C as R →
      MSs (cxB P w K mg base N x (defScope sm) f cdv A outer s H E) w0 (defBody sm) [] (ss0 N.length as) { nx := fun _ _ => R (.dat .none), rt := fun _ a => R a }) : DnG P w K mg base x (k + 1) C := by
  obtain ⟨f, fd, F, hm, hb⟩ := F
  refine ⟨f, fd, ps, okG F S (fun vs H Q E ⟨w0, as, R, e, hv, hc, q⟩ => by rw [hv.length]; exact len as R hc.2) fun cdv A outer s H vs Q E hg hr ⟨w0, as, R, e, hv, hc, q⟩ => ?_, hm, F.kp, hb⟩
  refine ⟨_, hbody f cdv A outer s H E w0.bare as R hg hr hc.2, w0, e, Sl.startM (w0 := w0.bare) (st := []) (Le.bare w0) SOk.bare hv hc.1, ⟨fun σ' ss' st' w' eg hs hk => q .non (.dat .none) w' hs.le.unat.unbare .non hk, fun v a st' w' eg hl ho ha hr => q v a w' hl.unbare ha hr, fun _ _ _ _ _ _ h => h.elim, fun _ _ _ _ _ _ h => h.elim⟩⟩
end
end Kp


namespace Kp
open PySem PySem.Spec PyProof.Rows L2
/-! ### x = [[] for k in ..]: so many new lists -/
theorem Sl.news {K : PySem.W.Frag} {w0 w w' : Wl} {st : Store} {ss : SS} {σ : L2.St} {new : Store} (h : Sl K (w0.at st) w σ ss) (l : Le w w') (hnew : ∀ p b as, (p, b, as) ∈ new → w.h p = none ∧ as.all AV.plain = true ∧ ∃ vs, w'.h p = some (hol b vs) ∧ w'.g p = none ∧ AvA K w' vs as) (nd : (new.map (·.1)).Nodup) :
    (∀ x ∈ new, Fresh st x.1) ∧ Sl K (w0.at (new ++ st)) w' σ ss := by
  have fr : ∀ x ∈ new, Fresh st x.1 := fun ⟨p, b, as⟩ m ⟨q, t, bs⟩ m2 e => by
    obtain ⟨_, _, us, g1, _⟩ := h.so.key m2
    have e : q = p := e
    rw [e, (hnew p b as m).1] at g1
    cases g1
  have hm := h.mono l
  refine ⟨fr, ⟨⟨hm.le.g, hm.le.h, hm.le.hid⟩, hm.len, hm.at_, hm.ap, hm.fr, ⟨fun q t bs m => ?_, ?_⟩, fun i ds q e1 e2 t bs m => ?_⟩⟩
  · rcases List.mem_append.mp m with m | m
    · obtain ⟨n1, n2, n3⟩ := hnew q t bs m
      exact ⟨exFree h.le.h n1, n2, n3⟩
    · exact (h.so.mono l).own q t bs m
  · show ((new ++ st).map (·.1)).Nodup
    rw [List.map_append]
    refine List.nodup_append.mpr ⟨nd, h.so.nd, fun x hx y hy e => ?_⟩
    obtain ⟨a, ha, rfl⟩ := List.mem_map.mp hx
    obtain ⟨b, hb, rfl⟩ := List.mem_map.mp hy
    exact fr a ha b hb e.symm
  · rcases List.mem_append.mp m with m | m
    · obtain ⟨v, z1, r, us, z2, z3, _⟩ := h.at_ i _ e1
      rw [e2] at z1
      cases z1
      cases z2
      rw [(hnew q t bs m).1] at z3
      cases z3
    · exact h.sd i ds q e1 e2 t bs m
section
variable {X : Cx} {w0 : Wl} {ss : SS} {st : Store} {pos : Pos}
theorem m_setLcE (j k : Nat) {x y : Str} {px py p0 spos : Pos} {iter : Expr} {scope : Scope} {N : MN} (hc : X.calm = true) (hN : X.N.Nodup) (hy : X.N[j]? = some x) (hyl : X.env.scope.names.lookup x = some .local) (ok : BlkOk X.N X.env.scope scope [(y, k)])
    (hg : ∀ (s : Shared) (H : Hp) (C : Addr) (cl : List (Str × Addr)) (fp : List Addr), PG (X.blk s H scope (compEnvC scope cl C X.env) fp) (.Name y py) (gName k))
    (h : KI X (w0.at st) (.Name y py) iter ss fun ds => ds.length ≤ 50000 ∧ ∀ (p : Addr) (qs : List Addr), qs.length = ds.length → (p :: qs).Nodup → (∀ q ∈ p :: qs, Fresh st q) → N.nx ((p, Ck.lst, qs.map AV.at_) :: qs.map (fun q => (q, Ck.lst, [])) ++ st) (ss.set j (some (.at_ p))))
    (hsw : swapsWith (.ListComp (.List [] p0) [⟨.Name y py, iter, [], 0⟩] scope pos) (some (.Name x px)) spos.line X.env = pure true := by rfl) (hs : ∀ x, foldedSetIterable iter X.env x = pure x := by intro _; rfl) : MS X w0 (.Assign [.Name x px] (.ListComp (.List [] p0) [⟨.Name y py, iter, [], 0⟩] scope pos) spos) st ss N := by
  refine PS.imp (ps_setLc hc hN hy hyl hsw h ok hg (fun _ _ _ _ _ => pts_nil) (fun _ _ _ _ _ => pe_lst pa_nil) hs) fun D σ H ⟨w, ew, hsl, d⟩ => ?_
  refine ⟨w, ew, hsl, fun J ds w1 l1 walk hk L hL => ?_⟩
  obtain ⟨hz, hk⟩ := hk
  let Inv := fun (i : Nat) (H' : Hp) => ∃ (w' : Wl) (qs : List Addr), w'.h = H' ∧ Le w1 w' ∧ w'.h L = some (.lst (qs.map V.ref)) ∧ w'.g L = none ∧ qs.length = i ∧ (∀ q ∈ qs, w'.h q = some (.lst []) ∧ w'.g q = none ∧ w1.h q = none) ∧ (L :: qs).Nodup
  refine ⟨fun i m H' => m = ds.length - i ∧ i ≤ ds.length ∧ Inv i H', ⟨ds.length, by simp, Nat.zero_le _, w1.own L (.lst []) (w1.gfree hL), [], rfl, Le.own hL, upd_same, w1.gfree hL, rfl, fun q m => absurd m List.not_mem_nil, List.nodup_cons.mpr ⟨List.not_mem_nil, List.nodup_nil⟩⟩, ?_⟩
  rintro i m H' ⟨rfl, hi, w', qs, rfl, le, h1, h2, h3, h4, h5⟩
  by_cases hlt : i < ds.length
  · refine .inr ?_
    have hget : ds[i]? = some ds[i] := by simp [hlt]
    obtain ⟨hgo, hyy⟩ := (walk w' le.g i).1 _ hget
    refine ⟨hgo, Inv (i + 1), fun H2 iv => ⟨ds.length - (i + 1), by omega, rfl, hlt, iv⟩, fun v H2 yy => ?_⟩
    obtain ⟨w2, rfl, l2, hx⟩ := hyy v H2 yy
    refine ⟨?_, ?_⟩
    · show (((σ.set k none).set k (some v)).set k none) = σ.set k none
      rw [List.set_set, List.set_set]
    · refine iteT (B := Inv (i + 1) w2.h) ?_
      refine ⟨Nat.zero_le _, fun p hp => ?_⟩
      have L2' : w2.h L = some (.lst (qs.map V.ref)) := l2.h _ _ h1
      have G2 : w2.g L = none := l2.hid L (by rw [h1]; simp) h2
      have npL : L ≠ p := fun e => by rw [← e, L2'] at hp; cases hp
      have npq : ∀ q ∈ qs, q ≠ p := fun q m e => by
        have z := l2.h _ _ (h4 q m).1
        rw [e, hp] at z
        cases z
      have nqL : ∀ q ∈ qs, q ≠ L := fun q m e => (List.nodup_cons.mp h5).1 (by rw [← e]; exact m)
      let w3 := w2.own p (.lst []) (w2.gfree hp)
      have l3 : Le w2 w3 := Le.own hp
      have L3 : w3.h L = some (.lst (qs.map V.ref)) := (upd_ne npL).trans L2'
      refine ⟨_, L3, ?_, w3.own L (.lst (qs.map V.ref ++ [.ref p])) G2, qs ++ [p], rfl, ?_, ?_, G2, by rw [List.length_append, h3]; rfl, fun q m => ?_, ?_⟩
      · rw [List.length_map, h3]
        exact Nat.lt_of_lt_of_le hlt (Nat.le_trans hz (by decide))
      · have lw : Le w1 w3 := (le.trans l2).trans l3
        refine ⟨lw.g, fun b o e => ?_, lw.hid⟩
        show upd w3.h L _ b = some o
        rw [upd_ne (ne_of_none e hL)]
        exact lw.h b o e
      · show upd w3.h L _ L = _
        rw [upd_same, List.map_append]
        rfl
      · rcases List.mem_append.mp m with m | m
        · obtain ⟨a1, a2, a3⟩ := h4 q m
          refine ⟨?_, l2.hid q (by rw [a1]; simp) a2, a3⟩
          show upd w3.h L _ q = _
          rw [upd_ne (nqL q m)]
          show upd w2.h p _ q = _
          rw [upd_ne (npq q m)]
          exact l2.h _ _ a1
        · rw [List.mem_singleton.mp m]
          refine ⟨?_, w2.gfree hp, exFree (le.trans l2).h hp⟩
          show upd w3.h L _ p = _
          rw [upd_ne npL.symm]
          exact upd_same
      · obtain ⟨n1, n2⟩ := List.nodup_cons.mp h5
        refine List.nodup_cons.mpr ⟨fun m => ?_, List.nodup_append.mpr ⟨n2, List.nodup_cons.mpr ⟨List.not_mem_nil, List.nodup_nil⟩, fun a ha b hb e => ?_⟩⟩
        · rcases List.mem_append.mp m with m | m
          · exact n1 m
          · exact npL (List.mem_singleton.mp m)
        · rw [List.mem_singleton.mp hb] at e
          exact npq a ha e
  · have e : i = ds.length := by omega
    subst e
    refine .inl ⟨(walk w' le.g ds.length).2 (Nat.le_refl _), ?_⟩
    have key : ∀ p b as, (p, b, as) ∈ ((L, Ck.lst, qs.map AV.at_) :: qs.map (fun q => (q, Ck.lst, [])) : Store) → w.h p = none ∧ as.all AV.plain = true ∧ ∃ vs, w'.h p = some (hol b vs) ∧ w'.g p = none ∧ AvA X.K w' vs as := fun p b as m => by
      rcases List.mem_cons.mp m with e | m
      · cases e
        refine ⟨exFree l1.h hL, ?_, qs.map V.ref, h1, h2, ?_⟩
        · rw [List.all_map, List.all_eq_true]
          exact fun _ _ => rfl
        · have go : ∀ qs : List Addr, AvA X.K w' (qs.map V.ref) (qs.map AV.at_) := fun qs => by
            induction qs with
            | nil => exact .nil
            | cons q qs ih => exact .cons rfl ih
          exact go qs
      · obtain ⟨q, hq, e⟩ := List.mem_map.mp m
        cases e
        obtain ⟨a1, a2, a3⟩ := h4 _ hq
        exact ⟨exFree l1.h a3, rfl, [], a1, a2, .nil⟩
    have nd : (((L, Ck.lst, qs.map AV.at_) :: qs.map (fun q => (q, Ck.lst, [])) : Store).map (·.1)).Nodup := by
      rw [List.map_cons, List.map_map]
      have e : qs.map ((fun x : Addr × Ck × List AV => x.1) ∘ fun q => (q, Ck.lst, [])) = qs := List.map_id' qs
      rw [e]
      exact h5
    obtain ⟨fr, hs2⟩ := Sl.news hsl (l1.trans le) key nd
    have allF : ∀ q ∈ L :: qs, Fresh st q := fun q m => by
      rcases List.mem_cons.mp m with e | m
      · rw [e]
        exact fr _ List.mem_cons_self
      · exact fr (q, Ck.lst, []) (List.mem_cons_of_mem _ (List.mem_map.mpr ⟨q, m, rfl⟩))
    exact d.nx _ _ _ w' (l1.trans le).g (hs2.set (a := .at_ L) j rfl rfl) (hk L qs h3 h5 allF)
end
end Kp


namespace Kp
open PySem PySem.Spec PyProof.Rows L2
/-! ### dicts of numbers by texts -/
def regGet (m : List (Str × Int)) (k : Str) : Option Int := (m.find? fun p => decide (p.1 = k)).map (·.2)
def regPut (m : List (Str × Int)) (k : Str) (i : Int) : List (Str × Int) := if (m.any fun p => decide (p.1 = k)) = true then m.map (fun p => if p.1 = k then (p.1, i) else p) else m ++ [(k, i)]
theorem inrD (a b : Str) : decide ((Sum.inr a : L2.Key) = Sum.inr b) = decide (a = b) := by
  by_cases h : a = b
  · rw [h]
    simp
  · rw [decide_eq_false h]
    exact decide_eq_false fun e => h (Sum.inr.inj e)
theorem valV_reg (k : Str) : ∀ m : List (Str × Int), valV (regK m) (.inr k) = (regGet m k).map V.int
  | [] => rfl
  | (x, i) :: m => by
    have ih := valV_reg k m
    by_cases h : x = k
    · subst h
      show valV ((Sum.inr x, V.int i) :: regK m) (.inr x) = _
      rw [valV_pos rfl]
      unfold regGet
      rw [List.find?_cons_of_pos (by simp)]
      rfl
    · show valV ((Sum.inr x, V.int i) :: regK m) (.inr k) = _
      rw [valV_neg (fun e => h (Sum.inr.inj e)), ih]
      unfold regGet
      rw [List.find?_cons_of_neg (by simpa using h)]
theorem putK_reg (k : Str) (i : Int) (m : List (Str × Int)) : putK (regK m) (.inr k) (.int i) = regK (regPut m k i) := by
  have hany : (regK m).any (fun kv => decide (kv.1 = Sum.inr k)) = m.any fun p => decide (p.1 = k) := by
    unfold regK
    rw [List.any_map]
    congr 1
    funext p
    exact inrD p.1 k
  unfold putK regPut
  rw [hany]
  by_cases h : (m.any fun p => decide (p.1 = k)) = true
  · rw [if_pos h, if_pos h]
    unfold regK
    rw [List.map_map, List.map_map]
    refine List.map_congr_left fun p _ => ?_
    show (if (Sum.inr p.1 : L2.Key) = Sum.inr k then (Sum.inr p.1, V.int i) else (Sum.inr p.1, V.int p.2)) = (fun q : Str × Int => ((Sum.inr q.1 : L2.Key), V.int q.2)) (if p.1 = k then (p.1, i) else p)
    by_cases e : p.1 = k
    · rw [if_pos (congrArg Sum.inr e), if_pos e]
    · rw [if_neg (fun z => e (Sum.inr.inj z)), if_neg e]
  · rw [if_neg h, if_neg h]
    unfold regK
    rw [List.map_append]
    rfl
theorem regPut_len (m : List (Str × Int)) (k : Str) (i : Int) : (regPut m k i).length ≤ m.length + 1 := by
  unfold regPut
  split
  · rw [List.length_map]
    omega
  · rw [List.length_append]
    exact Nat.le_refl _
section
variable {X : Cx} {w0 : Wl} {ss ss' : SS} {st : Store} {pos : Pos}
def anTs (X : Cx) (w0 : Wl) (e : Expr) : TT := fun σ H Q => ∃ ss R, KT X w0 e ss R ∧ ttOf X.K w0 ss R σ H Q
theorem pt_anS {e : Expr} : PT X e (anTs X w0 e) := ⟨fun pins s σ H Q I ⟨_, _, h, q⟩ => h.run pins s σ H Q I q⟩
/-- while -/
theorem ks_while {c : Expr} {body : List Stmt} {N : AN} (hp : PassesOwn (model X.prog X.w) X.A X.env X.xe) (I : Nat → SS → Prop) {m0 : Nat} (i0 : I m0 ss) (h : ∀ m ss', I m ss' → KT X w0 c ss' fun t => iteP t (KSs X w0 body ss' { nx := fun s => ∃ m', m' < m ∧ I m' s, rt := N.rt, bk := N.nx, ct := fun s => ∃ m', m' < m ∧ I m' s }) (N.nx ss')) : KS X w0 (.While c body [] pos) ss N := by
  refine PS.imp (ps_while hp (pt_anS (w0 := w0)) (pss_an (w0 := w0))) fun D σ H ⟨w, ew, hs, d⟩ => ⟨fun m σ' H' => ∃ (ss' : SS) (w' : Wl), w'.h = H' ∧ Sl X.K w0 w' σ' ss' ∧ Ex w.g w'.g ∧ I m ss', ⟨m0, ss, w, ew, hs, Ex.refl _, i0⟩, fun m σ' H' ⟨ss', w', e, hs', eg, hI⟩ => ⟨ss', _, h m ss' hI, w', e, hs', fun t w1 l1 hk => ?_⟩⟩
  cases t
  · exact iteF (d.nx σ' ss' w1 (eg.trans l1.g) (hs'.mono l1) hk)
  · refine iteT ⟨fun σ2 H2 => ∃ (m' : Nat) (ss2 : SS) (w2 : Wl), m' < m ∧ w2.h = H2 ∧ Sl X.K w0 w2 σ2 ss2 ∧ Ex w.g w2.g ∧ I m' ss2, fun σ2 H2 ⟨m', ss2, w2, lt, e2, s2, g2, i2⟩ => ⟨m', lt, ss2, w2, e2, s2, g2, i2⟩, ss', _, hk, w1, rfl, hs'.mono l1, ⟨fun σ3 ss3 w3 x3 s3 ⟨m', lt, n3⟩ => ⟨m', ss3, w3, lt, rfl, s3, eg.trans (l1.g.trans x3), n3⟩, fun v a w3 x3 l3 a3 r3 => d.rt v a w3 (eg.trans (l1.g.trans x3)) l3 a3 r3, fun σ3 ss3 w3 x3 s3 n3 => d.nx σ3 ss3 w3 (eg.trans (l1.g.trans x3)) s3 n3, fun σ3 ss3 w3 x3 s3 ⟨m', lt, n3⟩ => ⟨m', ss3, w3, lt, rfl, s3, eg.trans (l1.g.trans x3), n3⟩⟩⟩
theorem eqvB (a b : Bool) : PyData.eqv (.bool a) (.bool b) = (a == b) := by cases a <;> cases b <;> rfl
/-- d.get(k, other) -/
theorem k_rget {o e f : Expr} {apos : Pos} {R : AV → Prop} (hu : X.A.units + 1 < cLine) (h : KE X w0 o ss fun x => ∃ m, x = .reg m ∧ KE X w0 e ss fun y => ∃ k : Str, y = .dat (.str k) ∧ KE X w0 f ss fun z => ∃ n : Int, z = .dat (.int n) ∧ R (.dat (.int ((regGet m k).getD n))))
    (m : M2 X o "get" apos e f pos) : KE X w0 (.Call (.Attribute o "get" apos) [e, f] [] pos) ss R :=
  PE.imp (pe_dget2 hu h (pe_an (w0 := w0) (ss := ss)) (pe_an (w0 := w0) (ss := ss)) m) fun σ H Q ⟨w, ew, hs, q⟩ => ⟨w, ew, hs, fun v x w1 l1 hv ⟨mm, ex, he⟩ => by
    subst ex
    obtain ⟨a, rfl, ha⟩ := hv
    refine ⟨a, rfl, .inl ⟨_, .inl (w1.sub _ _ ha)⟩, _, he, w1, rfl, hs.mono l1, fun v2 y w2 l2 hv2 ⟨k, ey, hf⟩ => ?_⟩
    subst ey
    cases hv2
    refine ⟨_, hf, w2, rfl, (hs.mono l1).mono l2, fun v3 z w3 l3 hv3 ⟨n, ez, hr⟩ => ?_⟩
    subst ez
    cases hv3
    have h3 := w3.sub _ _ (l3.g _ _ (l2.g _ _ ha))
    refine ⟨_, DGet.k (k := .inr k) h3, ?_⟩
    rw [valV_reg]
    have ee : ((regGet mm k).map V.int).getD (V.int n) = V.int ((regGet mm k).getD n) := by cases regGet mm k <;> rfl
    rw [ee]
    exact q _ (.dat (.int _)) w3 (l1.trans (l2.trans l3)) (.int _) hr⟩
/-- {} -/
theorem mn_dict : ∀ {R : List AV → Prop}, R [] → MNw X w0 (.dct []) (.Dict [] [] pos) st ss R := fun {R} hR =>
  PE.imp pe_dnewK fun σ H Q ⟨w, ew, hs, q⟩ => by
    subst ew
    exact fun p hp => q p [] [] (w.own p (.dK []) (w.gfree hp)) (Le.own hp) hp upd_same (w.gfree hp) .nil rfl hR
/-- the dict at p is now this -/
def stPut (st : Store) (p : Addr) (m : List (Str × Int)) : Store := st.map fun x => if x.1 = p then (p, .dct m, []) else x
theorem stPut_keys (st : Store) (p : Addr) (m : List (Str × Int)) : (stPut st p m).map (·.1) = st.map (·.1) := by
  unfold stPut
  rw [List.map_map]
  refine List.map_congr_left fun x _ => ?_
  show (if x.1 = p then (p, Ck.dct m, []) else x).1 = x.1
  split
  · rename_i h; exact h.symm
  · rfl
theorem stPut_at {st : Store} {p : Addr} {bs : List AV} {b : Ck} {m : List (Str × Int)} (h : (p, b, bs) ∈ st) : (p, Ck.dct m, []) ∈ stPut st p m := List.mem_map.mpr ⟨_, h, if_pos rfl⟩
theorem stPut_ne {st : Store} {p q : Addr} {bs : List AV} {b : Ck} {m : List (Str × Int)} (h : (q, b, bs) ∈ st) (ne : q ≠ p) : (q, b, bs) ∈ stPut st p m := List.mem_map.mpr ⟨_, h, if_neg ne⟩
theorem mem_stPut {st : Store} {p q : Addr} {bs : List AV} {b : Ck} {m : List (Str × Int)} (h : (q, b, bs) ∈ stPut st p m) : (q = p ∧ b = .dct m ∧ bs = [] ∧ ∃ c cs, (p, c, cs) ∈ st) ∨ (q ≠ p ∧ (q, b, bs) ∈ st) := by
  obtain ⟨⟨r, c, cs⟩, mm, e⟩ := List.mem_map.mp h
  by_cases z : r = p
  · have e : (if r = p then (p, Ck.dct m, []) else (r, c, cs)) = (q, b, bs) := e
    rw [if_pos z] at e
    cases e
    exact .inl ⟨rfl, rfl, rfl, c, cs, by rw [← z]; exact mm⟩
  · have e : (if r = p then (p, Ck.dct m, []) else (r, c, cs)) = (q, b, bs) := e
    rw [if_neg z] at e
    cases e
    exact .inr ⟨z, mm⟩
theorem Sl.putD {K : PySem.W.Frag} {w : Wl} {σ : L2.St} {p : Addr} {m0 m : List (Str × Int)} (h : Sl K (w0.at st) w σ ss) (mm : (p, Ck.dct m0, []) ∈ st) (hg : w.g p = none) : Sl K (w0.at (stPut st p m)) (w.own p (.dK (regK m)) hg) σ ss := by
  have h0 : w0.h p = none := (h.so.key mm).1
  refine ⟨⟨h.le.g, fun b o e => ?_, h.le.hid⟩, h.len, fun i a e => ?_, h.ap, h.fr, ⟨fun q b cs n => ?_, ?_⟩, fun i ds q e1 e2 b cs n => ?_⟩
  · show upd w.h p _ b = some o
    rw [upd_ne (ne_of_none e h0)]
    exact h.le.h b o e
  · obtain ⟨v, h1, h2⟩ := h.at_ i a e
    refine ⟨v, h1, ?_⟩
    cases a with
    | buf es =>
      obtain ⟨r, zs, rfl, c1, c2, c3⟩ := h2
      have z : r ≠ p := fun z => by
        subst z
        exact h.sd i es r e h1 _ _ mm
      exact ⟨r, zs, rfl, (upd_ne z).trans c1, c2, c3⟩
    | _ => exact h2
  · have n : (q, b, cs) ∈ stPut st p m := n
    rcases mem_stPut n with ⟨rfl, rfl, rfl, _⟩ | ⟨ne, n⟩
    · exact ⟨h0, rfl, [], upd_same, hg, .nil⟩
    · obtain ⟨z0, z1, us, z2, z3, z4⟩ := h.so.key n
      exact ⟨z0, z1, us, (upd_ne ne).trans z2, z3, AvA.monoG (w1 := w) (w2 := w.own p (.dK (regK m)) hg) (Ex.refl w.g) z1 z4⟩
  · show ((stPut st p m).map (·.1)).Nodup
    rw [stPut_keys]
    exact h.so.nd
  · have n : (q, b, cs) ∈ stPut st p m := n
    rcases mem_stPut n with ⟨rfl, rfl, rfl, _⟩ | ⟨ne, n⟩
    · exact h.sd i ds q e1 e2 _ _ mm
    · exact h.sd i ds q e1 e2 b cs n
/-- d[k] = number -/
theorem m_dput {o i value : Expr} {pos' : Pos} {N : MN} (hu : X.A.units + 1 < cLine)
    (h : KE X (w0.at st) value ss fun v => ∃ n : Int, v = .dat (.int n) ∧ KE X (w0.at st) o ss fun x => ∃ p m, x = .at_ p ∧ (p, Ck.dct m, []) ∈ st ∧ m.length < 100000 ∧ KE X (w0.at st) i ss fun y => ∃ k : Str, y = .dat (.str k) ∧ N.nx (stPut st p (regPut m k n)) ss)
    (hs : swapsWith value (some (.Subscript o i pos')) pos.line X.env = pure false := by rfl) : MS X w0 (.Assign [.Subscript o i pos'] value pos) st ss N :=
  PS.imp (ps_dput hu (pe_an (w0 := w0.at st) (ss := ss)) (pe_an (w0 := w0.at st) (ss := ss)) h hs) fun D σ H ⟨w, ew, hsl, d⟩ => ⟨w, ew, hsl, fun v x w1 l1 hv ⟨n, ex, ho⟩ => by
    subst ex
    cases hv
    refine ⟨_, ho, w1, rfl, hsl.mono l1, fun v2 y w2 l2 hv2 ⟨p, m, ey, mm, hz, hi⟩ => ?_⟩
    subst ey
    cases hv2
    refine ⟨_, hi, w2, rfl, (hsl.mono l1).mono l2, fun v3 z w3 l3 hv3 ⟨k, ez, hk⟩ => ?_⟩
    subst ez
    cases hv3
    have hs3 := ((hsl.mono l1).mono l2).mono l3
    obtain ⟨_, _, vs, g1, g2, g3⟩ := hs3.so.key mm
    cases g3
    have g1 : w3.h p = some (.dK (regK m)) := g1
    have hlen : (regK m).length < sizeLine := by
      unfold regK
      rw [List.length_map]
      exact Nat.lt_of_lt_of_le hz (by decide)
    refine ⟨p, _, rfl, DPut.k (k := .inr k) (v := .int n) g1 hlen, ?_⟩
    rw [putK_reg]
    exact d.nx σ ss _ (w3.own p (.dK (regK (regPut m k n))) g2) (l1.g.trans (l2.g.trans l3.g)) (hs3.putD mm g2) hk⟩
/-- what may stand in a slot in the stead of a thing of the store -/
theorem Sl.thawR {K : PySem.W.Frag} {w : Wl} {σ : L2.St} {i : Nat} {p : Addr} {m : List (Str × Int)} (h : Sl K (w0.at st) w σ ss) (T : Thaw st ss ss') (hi : ss[i]? = some (some (.at_ p))) (mm : (p, Ck.dct m, []) ∈ st) (hi' : ss'[i]? = some (some (.at_ p))) : Sl K w0.bare (w.frz st) σ (ss'.set i (some (.reg m))) := by
  have s := h.thaw T
  obtain ⟨v, h1, h2⟩ := h.at_ i _ hi
  cases h2
  obtain ⟨_, _, vs, g1, g2, g3⟩ := h.so.key mm
  cases g3
  have g1 : w.h p = some (.dK (regK m)) := g1
  have e : σ.set i (some (.ref p)) = σ := by
    apply List.ext_getElem?
    intro j
    by_cases hj : i = j
    · subst hj
      rw [List.getElem?_set_self (List.getElem?_eq_some_iff.mp h1).1, h1]
    · rw [List.getElem?_set_ne hj]
  have q := s.set (a := .reg m) (v := .ref p) i rfl ⟨p, rfl, (frzG_in (List.mem_map_of_mem mm)).trans g1⟩
  rw [e] at q
  exact q
/-- an expression is read with the store frozen, a slot's dict as numbers by texts -/
theorem k_tmpR (i : Nat) {p : Addr} {m : List (Str × Int)} {e : Expr} {R : AV → Prop} (T : Thaw st ss ss') (hi : ss[i]? = some (some (.at_ p))) (mm : (p, Ck.dct m, []) ∈ st) (hi' : ss'[i]? = some (some (.at_ p))) (h : KE X w0.bare e (ss'.set i (some (.reg m))) fun a => onDat a fun d => immD d = true ∧ R (.dat d)) : KE X (w0.at st) e ss R :=
  PE.imp h fun σ H Q ⟨w, ew, hs, q⟩ => ⟨w.frz st, ew, hs.thawR T hi mm hi', fun v a w' l ha hr => by
    obtain ⟨d, rfl, hi, r⟩ := hr.of
    exact q v (.dat d) (w.thw w' l.h) (Le.thw (w := w) l.h) (Dd.imm hi ha) r⟩
theorem kt_tmpR (i : Nat) {p : Addr} {m : List (Str × Int)} {e : Expr} {R : Bool → Prop} (T : Thaw st ss ss') (hi : ss[i]? = some (some (.at_ p))) (mm : (p, Ck.dct m, []) ∈ st) (hi' : ss'[i]? = some (some (.at_ p))) (h : KT X w0.bare e (ss'.set i (some (.reg m))) R) : KT X (w0.at st) e ss R :=
  PT.imp h fun σ H Q ⟨w, ew, hs, q⟩ => ⟨w.frz st, ew, hs.thawR T hi mm hi', fun b w' l r => q b (w.thw w' l.h) (Le.thw (w := w) l.h) r⟩
end
end Kp


namespace Kp
open PySem PySem.Spec PyProof.Rows L2
/-! ### tuples taken apart over the store -/
section
variable {X : Cx} {w0 : Wl} {ss ssF : SS} {st : Store} {pos : Pos}
/-- x, y = e, where e is read with the store frozen, and both lean on nothing -/
theorem m_asg2 (i j : Nat) (hij : i ≠ j) {tg e : Expr} {N : MN} (hF : ∀ w σ, Sl X.K (w0.at st) w σ ss → Sl X.K w0.bare (w.frz st) σ ssF) (hg : PG X tg (gTup X.K 2 (gCons (gName i) (gCons (gName j) gNil))))
    (h : KE X w0.bare e ssF fun a => ∃ d1 d2, a = .dat (.tuple [d1, d2]) ∧ immD d1 = true ∧ immD d2 = true ∧ N.nx st ((ss.set i (some (.dat d1))).set j (some (.dat d2))))
    (h1 : swapsWithSole [tg] e pos.line X.env = pure false := by rfl) (h2 : swappedStores [tg] e X.env = pure none := by rfl) (h3 : (assignEach [tg] X.env).map (·.2) = [assign tg X.env] := by rfl) : MS X w0 (.Assign [tg] e pos) st ss N :=
  PS.imp (ps_asg h hg h1 h2 h3) fun D σ H ⟨w, ew, hs, d⟩ => ⟨w.frz st, ew, hF w σ hs, fun v a w1 l1 hv hk => by
    obtain ⟨d1, d2, rfl, i1, i2, hn⟩ := hk
    cases hv with
    | tup g1 a1 =>
      cases a1 with
      | cons b1 a1 =>
        cases a1 with
        | cons b2 a1 =>
          cases a1
          have st1 := ((hs.mono (Le.thw (w := w) (w' := w1) l1.h)).set (a := .dat d1) i rfl (Dd.imm i1 b1)).set (a := .dat d2) j rfl (Dd.imm i2 b2)
          exact ⟨_, _, rfl, w1.t g1, rfl, _, _, rfl, _, _, rfl, rfl, d.nx _ _ st (w.thw w1 l1.h) (Ex.refl _) st1 hn⟩⟩
/-- x, y, z = e, a tuple of the store -/
theorem m_unp3 (i j k : Nat) {tg e : Expr} {N : MN} (hg : PG X tg (gTup X.K 3 (gCons (gName i) (gCons (gName j) (gCons (gName k) gNil)))))
    (h : ME X w0 e st ss fun st' a => ∃ t a1 a2 a3, a = .at_ t ∧ (t, Ck.tup, [a1, a2, a3]) ∈ st' ∧ N.nx st' (((ss.set i (some a1)).set j (some a2)).set k (some a3)))
    (h1 : swapsWithSole [tg] e pos.line X.env = pure false := by rfl) (h2 : swappedStores [tg] e X.env = pure none := by rfl) (h3 : (assignEach [tg] X.env).map (·.2) = [assign tg X.env] := by rfl) : MS X w0 (.Assign [tg] e pos) st ss N :=
  PS.imp (ps_asg h hg h1 h2 h3) fun D σ H ⟨w, ew, hs, d⟩ => ⟨w, ew, hs, fun v a st' w1 e1 hs1 hv hk => by
    obtain ⟨t, a1, a2, a3, rfl, m, hn⟩ := hk
    cases hv
    obtain ⟨_, hp, vs, g1, _, g3⟩ := hs1.so.key m
    cases g3 with
    | cons b1 g3 =>
      cases g3 with
      | cons b2 g3 =>
        cases g3 with
        | cons b3 g3 =>
          cases g3
          have hp : (a1.plain && (a2.plain && (a3.plain && true))) = true := hp
          rw [Bool.and_eq_true, Bool.and_eq_true, Bool.and_eq_true] at hp
          have st1 := ((hs1.set i hp.1 b1).set j hp.2.1 b2).set k hp.2.2.1 b3
          exact ⟨_, _, rfl, .inl (.inl g1), rfl, _, _, rfl, _, _, rfl, _, _, rfl, rfl, d.nx _ _ st' w1 e1 st1 hn⟩⟩
end
end Kp


namespace Kp
open PySem PySem.Spec PyProof.Rows L2
/-! ### a place of a list of the store is stored; comprehensions whose elements make new cells -/
section
variable {X : Cx} {w0 : Wl} {ss ss' : SS} {st : Store} {pos : Pos}
/-- o[i] = e -/
theorem m_setI {o i value : Expr} {pos' : Pos} {N : MN}
    (h : ME X w0 value st ss fun st1 v => onPlain v fun v => ME X w0 o st1 ss fun st2 x => ∃ p as0, x = .at_ p ∧ (p, Ck.lst, as0) ∈ st2 ∧ ME X w0 i st2 ss fun st3 y => ∃ (k : Int) (j : Nat) (as : List AV), y = .dat (.int k) ∧ (p, Ck.lst, as) ∈ st3 ∧ ixN as.length k = some j ∧ N.nx (stSet st3 p (as.set j v)) ss)
    (ha : ∀ v, assign (.Subscript o i pos') X.env v = (do
      let ov ← holding [v] (eval o X.env)
      let iv ← holding [v, ov] (eval i X.env)
      standAt pos'
      holding [v, ov, iv] (setItem ov iv v)
      release [v, ov, iv] []) := by intro _; rfl)
    (hs : swapsWithSole [.Subscript o i pos'] value pos.line X.env = pure false := by rfl) (hw : swappedStores [.Subscript o i pos'] value X.env = pure none := by rfl)
    (h1 : (assignEach [.Subscript o i pos'] X.env).map (·.2) = [assign (.Subscript o i pos') X.env] := by rfl) : MS X w0 (.Assign [.Subscript o i pos'] value pos) st ss N := by
  refine PS.imp (ps_asg h (pg_sub (pe_anM (w0 := w0)) (pe_anM (w0 := w0)) set_list ha) hs hw h1) fun D σ H ⟨w, ew, hsl, d⟩ => ?_
  refine ⟨w, ew, hsl, fun v a st1 w1 e1 hs1 hv hk => ?_⟩
  obtain ⟨hpl, ho⟩ := hk.of
  refine ⟨st1, ss, _, ho, w1, rfl, hs1, fun u x st2 w2 e2 hs2 hu ⟨p, as0, ex, m0, hi⟩ => ?_⟩
  subst ex
  cases hu
  refine ⟨st2, ss, _, hi, w2, rfl, hs2, fun z y st3 w3 e3 hs3 hz ⟨k, j, as, ey, m, hj, hn⟩ => ?_⟩
  subst ey
  cases hz
  obtain ⟨_, hpa, vs, k1, k2, k3⟩ := hs3.so.key m
  have k1 : w3.h p = some (.lst vs) := k1
  refine ⟨p, vs, k, j, rfl, rfl, k1, by rw [k3.length]; exact hj, ?_⟩
  have hv3 : Av X.K w3 v a := Av.monoG (e2.trans e3) hpl hv
  have hset : ∀ {vs : List V} {as : List AV} (j : Nat), AvA X.K w3 vs as → AvA X.K w3 (vs.set j v) (as.set j a) := by
    intro vs as j hh
    induction hh generalizing j with
    | nil => exact .nil
    | cons a t ih =>
      cases j with
      | zero => exact .cons hv3 t
      | succ j => exact .cons a (ih j)
  have hall : (as.set j a).all AV.plain = true := by
    rw [List.all_eq_true] at hpa ⊢
    intro b hb
    rcases List.mem_or_eq_of_mem_set hb with q | q
    · exact hpa b q
    · rw [q]; exact hpl
  exact d.nx σ ss _ (w3.own p (.lst (vs.set j v)) k2) ((e1.trans e2).trans e3) (hs3.setC m k2 (hset j k3) hall) hn
/-- no slot holds a hidden list -/
def nbS (ss : SS) : Bool := ss.all fun o => match o with | some a => a.plain | none => true
theorem nbS.not {ds : List PyData} {i : Nat} (h : nbS ss = true) (e : ss[i]? = some (some (AV.buf ds))) : False := by
  have := List.all_eq_true.mp h _ (List.mem_of_getElem? e)
  cases this
theorem nbS.plain {a : AV} {i : Nat} (h : nbS ss = true) (e : ss[i]? = some (some a)) : a.plain = true := List.all_eq_true.mp h _ (List.mem_of_getElem? e)
/-- the slots of before in a later world, where no slot holds a hidden list -/
theorem Sl.backM {K : PySem.W.Frag} {w w2 : Wl} {σ σ2 : L2.St} {ss2 : SS} {st' st2 : Store} (hb : nbS ss = true) (h : Sl K (w0.at st') w σ ss) (h2 : Sl K (w0.at st2) w2 σ2 ss2) (e : Ex w.g w2.g) : Sl K (w0.at st2) w2 σ ss :=
  ⟨h2.le, h.len, fun i a q => let ⟨v, h1, h2⟩ := h.at_ i a q; ⟨v, h1, Av.monoG e (nbS.plain hb q) h2⟩, fun i j ds es v _ q => (nbS.not hb q).elim, fun i ds p q => (nbS.not hb q).elim, h2.so, fun i ds p q => (nbS.not hb q).elim⟩
abbrev BM (X : Cx) (w0 : Wl) (scope : Scope) (e : Expr) (st : Store) (ss : SS) (R : Store → AV → Prop) : Prop := ∀ (s : Shared) (H : Hp) (C : Addr) (cl : List (Str × Addr)) (fp : List Addr), ME (X.blk s H scope (compEnvC scope cl C X.env) fp) w0 e st ss R
def anBM (X : Cx) (w0 : Wl) (scope : Scope) (e : Expr) : TE := fun σ H Q => ∃ st ss R, BM X w0 scope e st ss R ∧ tmeOf X.K w0 st ss R σ H Q
def anBTM (X : Cx) (w0 : Wl) (scope : Scope) (e : Expr) : TT := fun σ H Q => ∃ st ss R, BT X (w0.at st) scope e ss R ∧ ttOf X.K (w0.at st) ss R σ H Q
/-- the tests of a comprehension: none, or one; read over the store -/
abbrev testM (X : Cx) (w0 : Wl) (scope : Scope) (ifs : List Expr) (st : Store) (ss : SS) (Y N : Prop) : Prop := match ifs with
  | [] => Y
  | [c] => BT X (w0.at st) scope c ss fun b => iteP b Y N
  | _ => False
def ttM (X : Cx) (w0 : Wl) (scope : Scope) (ifs : List Expr) : TT := match ifs with
  | [] => tYes
  | [c] => anBTM X w0 scope c
  | _ => fun _ _ _ => False
theorem pts_M {scope : Scope} {ifs : List Expr} (s : Shared) (H : Hp) (C : Addr) (cl : List (Str × Addr)) (fp : List Addr) : PTs (X.blk s H scope (compEnvC scope cl C X.env) fp) ifs (ttM X w0 scope ifs) := by
  match ifs with
  | [] => exact pts_nil
  | [c] => exact pts_one ⟨fun pins s' σ H' Q I ⟨_, _, _, h, q⟩ => (h s H C cl fp).run pins s' σ H' Q I q⟩
  | _ :: _ :: _ => exact ⟨fun pins s' σ H' Q I h => h.elim⟩
/-- what a comprehension over the store asks of what is walked -/
abbrev lcMS (X : Cx) (w0 : Wl) (st : Store) (ss : SS) (scope : Scope) (elt : Expr) (ifs : List Expr) (vs : List Nat) (T : PyData → SS → (SS → Prop) → Prop) (R : Store → AV → Prop) : List PyData → Prop := fun ds =>
  ds.length ≤ 50000 ∧ ∃ P : Addr → Nat → Store → List AV → Prop, (∀ D, Fresh st D → P D 0 ((D, Ck.lst, []) :: st) []) ∧
    (∀ D i d st' acc, ds[i]? = some d → (D, Ck.lst, acc) ∈ st' → P D i st' acc → T d (wipeS ss vs) fun ss' => testM X w0 scope ifs st' ss' (BM X w0 scope elt st' ss' fun st2 a => onPlain a fun a => (D, Ck.lst, acc) ∈ st2 ∧ P D (i + 1) (stSet st2 D (acc ++ [a])) (acc ++ [a])) (P D (i + 1) st' acc)) ∧
    ∀ D st' acc, (D, Ck.lst, acc) ∈ st' → P D ds.length st' acc → R st' (.at_ D)
theorem lcM {elt : Expr} {ifs : List Expr} {scope : Scope} {own : List (Str × Nat)} {g : TG} {T : PyData → SS → (SS → Prop) → Prop} {R : Store → AV → Prop} (hb : nbS ss = true) (hT : ∀ st, TgOk X.K (w0.at st) g T (own.map (·.2))) (σ : L2.St) (H : Hp) (Q : VK) (hq : tmeOf X.K w0 st ss R σ H Q) :
    tLc (iOf X.K (w0.at st) ss (lcMS X w0 st ss scope elt ifs (own.map (·.2)) T R)) g (ttM X w0 scope ifs) (anBM X w0 scope elt) (own.map (·.2)) σ H Q := by
  obtain ⟨w, ew, hsl, q⟩ := hq
  refine ⟨w, ew, hsl, fun J ds w1 l1 walk hk D hD => ?_⟩
  obtain ⟨hz, P, p0, pt, pe⟩ := hk
  have hs1 := hsl.mono l1
  obtain ⟨frD, hsD⟩ := Sl.new (b := .lst) (vs := []) (as := []) hs1 (Le.own (o := .lst []) hD) hD upd_same (w1.gfree hD) .nil rfl
  let Inv := fun (i : Nat) (H' : Hp) => ∃ (w' : Wl) (st' : Store) (acc : List AV), w'.h = H' ∧ Sl X.K (w0.at st') w' σ ss ∧ Ex w1.g w'.g ∧ (D, Ck.lst, acc) ∈ st' ∧ P D i st' acc ∧ acc.length ≤ i
  refine ⟨fun i m H' => m = ds.length - i ∧ i ≤ ds.length ∧ Inv i H', ⟨ds.length, by simp, Nat.zero_le _, w1.own D (.lst []) (w1.gfree hD), _, [], rfl, hsD, Ex.refl _, List.mem_cons_self, p0 D frD, Nat.le_refl 0⟩, ?_⟩
  rintro i m H' ⟨rfl, hi, w', st', acc, rfl, hs', eg, mD, hp, hl⟩
  by_cases hlt : i < ds.length
  · refine .inr ?_
    have hget : ds[i]? = some ds[i] := by simp [hlt]
    obtain ⟨hgo, hy⟩ := (walk w' eg i).1 _ hget
    refine ⟨hgo, Inv (i + 1), fun H2 iv => ⟨ds.length - (i + 1), by omega, rfl, hlt, iv⟩, fun x H2 y => ?_⟩
    obtain ⟨w2, rfl, l2, hx⟩ := hy x H2 y
    refine (hT st').go x ds[i] w2 _ _ _ _ hx ((hs'.mono l2).wipe _) (pt D i _ st' acc hget mD hp) fun σ2 ss2 hs2 hw2 k2 => ⟨by
      rw [hw2]
      exact wipe_idem2 _ _, ?_⟩
    have elt_ok : ∀ w3 : Wl, Le w2 w3 → BM X w0 scope elt st' ss2 (fun st2 a => onPlain a fun a => (D, Ck.lst, acc) ∈ st2 ∧ P D (i + 1) (stSet st2 D (acc ++ [a])) (acc ++ [a])) →
        anBM X w0 scope elt σ2 w3.h fun y H4 => ∃ acc, H4 D = some (.lst acc) ∧ acc.length < sizeLine ∧ Inv (i + 1) (upd H4 D (.lst (acc ++ [y]))) := fun w3 l3 he => by
      refine ⟨st', ss2, _, he, w3, rfl, hs2.mono l3, fun v a st2 w4 e4 hs4 hv4 ha => ?_⟩
      obtain ⟨hpl, m4, hP⟩ := ha.of
      obtain ⟨_, hpa, vs, g1, g2, g3⟩ := hs4.so.key m4
      have g1 : w4.h D = some (.lst vs) := g1
      have e24 : Ex w'.g w4.g := (l2.g.trans l3.g).trans e4
      have hsb : Sl X.K (w0.at st2) w4 σ ss := Sl.backM hb hs' hs4 e24
      refine ⟨vs, g1, ?_, w4.own D (.lst (vs ++ [v])) g2, _, acc ++ [a], rfl, hsb.setC m4 g2 (g3.appA (.cons hv4 .nil)) (by rw [List.all_append, hpa, List.all_cons, hpl]; rfl), eg.trans e24, stSet_at m4, hP, by rw [List.length_append]; exact Nat.succ_le_succ hl⟩
      rw [g3.length]
      exact Nat.lt_of_le_of_lt (Nat.le_trans hl (Nat.le_of_lt (Nat.lt_of_lt_of_le hlt hz))) (by decide)
    have no_ok : ∀ w3 : Wl, Le w2 w3 → P D (i + 1) st' acc → Inv (i + 1) w3.h := fun w3 l3 hP => ⟨w3, st', acc, rfl, (hs'.mono l2).mono l3, eg.trans (l2.g.trans l3.g), mD, hP, Nat.le_succ_of_le hl⟩
    unfold testM at k2
    unfold ttM
    split at k2
    · exact iteT (B := Inv (i + 1) w2.h) (elt_ok w2 (Le.refl _) k2)
    · refine ⟨st', ss2, _, k2, w2, rfl, hs2, fun b w3 l3 hb => ?_⟩
      cases b
      · exact iteF (no_ok w3 l3 hb)
      · exact iteT (elt_ok w3 l3 hb)
    · exact k2.elim
  · have e : i = ds.length := by omega
    subst e
    refine .inl ⟨(walk w' eg ds.length).2 (Nat.le_refl _), ?_⟩
    exact q (.ref D) (.at_ D) st' w' (l1.g.trans eg) hs' rfl (pe D st' acc mD hp)
where
  wipe_idem2 : ∀ (σ : L2.St) (vs : List Nat), L2.wipe (L2.wipe σ vs) vs = L2.wipe σ vs := by
    intro σ vs
    apply List.ext_getElem?
    intro i
    by_cases hi : i ∈ vs
    · have z : ∀ (τ : L2.St) (us : List Nat), i ∈ us → (L2.wipe τ us)[i]? = if i < τ.length then some none else none := by
        intro τ us
        induction us with
        | nil => intro h; cases h
        | cons u us ih =>
          intro h
          show ((L2.wipe τ us).set u none)[i]? = _
          by_cases hu : u = i
          · subst hu
            by_cases hl : u < τ.length
            · rw [List.getElem?_set_self (by rw [wipe_length]; exact hl), if_pos hl]
            · rw [List.getElem?_eq_none (by rw [List.length_set, wipe_length]; omega), if_neg hl]
          · rw [List.getElem?_set_ne hu]
            exact ih ((List.mem_cons.mp h).resolve_left fun q => hu q.symm)
      rw [z _ _ hi, z _ _ hi, wipe_length]
    · rw [wipe_out hi]
theorem me_lcM {tg elt iter : Expr} {ifs : List Expr} {scope : Scope} {own : List (Str × Nat)} {g : TG} {T : PyData → SS → (SS → Prop) → Prop} {R : Store → AV → Prop} (hc : X.calm = true) (hN : X.N.Nodup) (hb : nbS ss = true) (ok : BlkOk X.N X.env.scope scope own)
    (hT : ∀ st, TgOk X.K (w0.at st) g T (own.map (·.2)))
    (hg : ∀ (s : Shared) (H : Hp) (C : Addr) (cl : List (Str × Addr)) (fp : List Addr), PG (X.blk s H scope (compEnvC scope cl C X.env) fp) tg g)
    (h : KI X (w0.at st) tg iter ss (lcMS X w0 st ss scope elt ifs (own.map (·.2)) T R))
    (hs : ∀ x, foldedSetIterable iter X.env x = pure x := by intro _; rfl) : ME X w0 (.ListComp elt [⟨tg, iter, ifs, 0⟩] scope pos) st ss R :=
  PE.imp (pe_lc hc hN h ok hg (pts_M (w0 := w0)) (te := anBM X w0 scope elt) (fun s H C cl fp => ⟨fun pins s' σ H' Q I ⟨_, _, _, hh, q⟩ => (hh s H C cl fp).run pins s' σ H' Q I q⟩) hs) (lcM hb hT)
/-- x = [..] on one line, x a local -/
theorem m_setLcM (j : Nat) {x : Str} {px spos : Pos} {tg elt iter : Expr} {ifs : List Expr} {scope : Scope} {own : List (Str × Nat)} {g : TG} {T : PyData → SS → (SS → Prop) → Prop} {N : MN} (hc : X.calm = true) (hN : X.N.Nodup) (hb : nbS ss = true) (hy : X.N[j]? = some x) (hyl : X.env.scope.names.lookup x = some .local) (ok : BlkOk X.N X.env.scope scope own)
    (hT : ∀ st, TgOk X.K (w0.at st) g T (own.map (·.2)))
    (hg : ∀ (s : Shared) (H : Hp) (C : Addr) (cl : List (Str × Addr)) (fp : List Addr), PG (X.blk s H scope (compEnvC scope cl C X.env) fp) tg g)
    (h : KI X (w0.at st) tg iter ss (lcMS X w0 st ss scope elt ifs (own.map (·.2)) T fun st' a => onPlain a fun a => N.nx st' (ss.set j (some a))))
    (hsw : swapsWith (.ListComp elt [⟨tg, iter, ifs, 0⟩] scope pos) (some (.Name x px)) spos.line X.env = pure true := by rfl) (hs : ∀ x, foldedSetIterable iter X.env x = pure x := by intro _; rfl) : MS X w0 (.Assign [.Name x px] (.ListComp elt [⟨tg, iter, ifs, 0⟩] scope pos) spos) st ss N :=
  PS.imp (ps_setLc hc hN hy hyl hsw h ok hg (pts_M (w0 := w0)) (te := anBM X w0 scope elt) (fun s H C cl fp => ⟨fun pins s' σ H' Q I ⟨_, _, _, hh, q⟩ => (hh s H C cl fp).run pins s' σ H' Q I q⟩) hs) fun D σ H ⟨w, ew, hsl, d⟩ =>
    lcM (R := fun st' a => onPlain a fun a => N.nx st' (ss.set j (some a))) hb hT σ H _ ⟨w, ew, hsl, fun v a st' w1 e1 hs1 hv hk => by
      obtain ⟨hp, hk⟩ := hk.of
      exact d.nx _ _ st' w1 e1 (hs1.set j hp hv) hk⟩
end
end Kp


namespace K61
open PySem PySem.Spec PyProof.Rows L2 Kp
def top (i : Nat) : Stmt := PySem.Challenge.pw_readsfrom_k61_programs_called_otherwise.main.body.getD i (.Pass ⟨0, 0, 0, 0⟩)
abbrev sIsDeed : Stmt := top 22
abbrev sName : Stmt := top 6
abbrev sWhole : Stmt := top 7
abbrev sBetw : Stmt := top 8
abbrev sIsOf : Stmt := top 14
abbrev sWorded : Stmt := top 12
abbrev sParts : Stmt := top 13
section
variable {base : Heap} {K : PySem.W.Frag} {w : World} {P : Program} {mg : Str → Option Value}
theorem scWhole : FnScope ["thing"] ["thing"] (defScope sWhole) := ⟨rfl, rfl, rfl, by decide +kernel, rfl, by decide +kernel, by decide +kernel⟩
theorem d_whole (B : Blt mg) (F : Fn0 K mg "is_whole" sWhole ["thing"]) : Dn P w K mg base "is_whole" 1 cWhole := by
  refine dn F scWhole (fun as R ⟨d, e, _⟩ => by subst e; rfl) fun f cdv A outer s H E w0 as R hr hC => ?_
  obtain ⟨d, rfl, hR⟩ := hC
  show KSs _ _ _ [some (.dat d)] _
  refine ks_one (ks_ret (k_and (k_isi rfl B.isi rfl B.int b_int (k_var 0 rfl rfl ⟨_, kit_int d, ?_⟩))))
  cases d with
  | int i => exact k_one (k_not (k_isi rfl B.isi rfl B.bool b_bool (k_var 0 rfl rfl ⟨_, kit_bool _, hR⟩)))
  | bool i => exact k_one (k_not (k_isi rfl B.isi rfl B.bool b_bool (k_var 0 rfl rfl ⟨_, kit_bool _, hR⟩)))
  | _ => exact hR
theorem scBetw : FnScope ["thing", "least", "most"] ["thing", "least", "most"] (defScope sBetw) := ⟨rfl, rfl, rfl, by decide +kernel, rfl, by decide +kernel, by decide +kernel⟩
theorem d_betw (B : Blt mg) (W : Dn P w K mg base "is_whole" 1 cWhole) (F : Fn0 K mg "is_from_to" sBetw ["thing", "least", "most"]) : Dn P w K mg base "is_from_to" 2 cBetw := by
  refine dn F scBetw (fun as R ⟨d, lo, hi, e, _⟩ => by subst e; rfl) fun f cdv A outer s H E w0 as R hr hC => ?_
  obtain ⟨d, lo, hi, rfl, hR⟩ := hC
  show KSs _ _ _ [some (.dat d), some (.dat (.int lo)), some (.dat (.int hi))] _
  refine ks_one (ks_ret (k_and (k_cd W hr (Nat.le_refl _) rfl (ka_cons (k_var 0 rfl rfl (ka_nil ⟨rfl, d, rfl, ?_⟩))))))
  cases d with
  | int i =>
    refine k_one (k_chain dc_le dc_le (k_var 1 rfl rfl (k_var 0 rfl rfl ?_)))
    refine iteD (fun h => ?_) (fun h => ?_)
    · refine k_var 2 rfl rfl ?_
      have e : betwB lo hi (.int i) = decide (i ≤ hi) := by simp [betwB, h]
      rw [e] at hR
      exact hR
    · have e : betwB lo hi (.int i) = false := by simp [betwB, h]
      rw [e] at hR
      exact hR
  | _ => exact hR
theorem scName : FnScope ["thing", "sign"] ["thing"] (defScope sName) := ⟨rfl, rfl, rfl, by decide +kernel, rfl, by decide +kernel, by decide +kernel⟩
theorem d_name (B : Blt mg) (g1 : ∃ t, mg "LETTERS" = some (.str abc t)) (g2 : ∃ t, mg "NAME_LETTERS" = some (.int 6 t)) (F : Fn0 K mg "is_name" sName ["thing"]) : Dn P w K mg base "is_name" 1 cName := by
  refine dn F scName (fun as R ⟨d, e, _⟩ => by subst e; rfl) fun f cdv A outer s H E w0 as R hr hC => ?_
  obtain ⟨d, rfl, hz, hR⟩ := hC
  obtain ⟨t1, g1⟩ := g1
  obtain ⟨t2, g2⟩ := g2
  show KSs _ _ _ [some (.dat d), none] _
  refine ks_cons (ks_if (kt_w (kw_or (kt_not (kt_val (k_isi rfl B.isi rfl B.str b_str (k_var 0 rfl rfl ⟨_, kit_str d, ?_⟩)))))))
  cases d with
  | str z =>
    have hz := (hz z rfl).1
    refine kw_or1 (kt_not (kt_chain dc_le dc_le (k_int (k_cB dl_len rfl B.len b_len (ka_cons (k_var 0 rfl rfl (ka_nil ⟨hz, ?_⟩)))))))
    refine iteD (fun h1 => ?_) (fun h1 => ?_)
    · refine k_gl (v := .int 6) rfl g2 ⟨_, rfl⟩ (fun _ => .int 6) ?_
      refine iteN (fun h2 => ?_) (fun h2 => ?_)
      · refine ks_one (ks_ret (k_bl ?_))
        have e : nameB (.str z) = false := by
          have : ¬ z.length ≤ 6 := by omega
          simp [nameB, this]
        rw [e] at hR
        exact hR
      · refine ks_nil (ks_one (ks_ret (k_cB (dl_all rfl) rfl B.all b_all (ka_cons (k_ofN ?_)))))
        have hlen : z.cps.size = z.length := rfl
        refine kn_lc (own := [("sign", 1)]) (g := gName 1) rfl scName.nd (blkOk_by (N := ["thing", "sign"]) (sc := defScope sName) (by decide +kernel)) (tgok1 1) (fun _ _ _ _ _ => pg_name (i := 1) scName.nd rfl (Or.inl rfl)) (ki_str (k_var 0 rfl rfl ⟨?_, fun i es => es = ((z.cps.toList.take i).map fun c => (decide (97 ≤ c) && decide (c ≤ 122))).map .bool, rfl, fun i d acc hd hp => ?_, fun es he => ?_⟩))
        · show (z.cps.toList.map _).length ≤ _
          rw [List.length_map, Array.length_toList]
          omega
        · have hd' : ∃ c, z.cps.toList[i]? = some c ∧ d = .str ⟨#[c]⟩ := by
            unfold signsD at hd
            rw [List.getElem?_map] at hd
            cases q : z.cps.toList[i]? with
            | none => rw [q] at hd; cases hd
            | some c => rw [q] at hd; exact ⟨c, rfl, (Option.some.inj hd).symm⟩
          obtain ⟨c, hc, rfl⟩ := hd'
          subst hp
          refine fun _ _ _ _ _ => k_cm dc_in (k_var 1 rfl rfl (k_gl (v := .str abc) rfl g1 ⟨_, rfl⟩ (fun _ => .str abc) ⟨c, rfl, ?_⟩))
          show _ = _
          rw [mem_abc, List.take_add_one, hc]
          simp
        · subst he
          refine ka_nil ⟨_, rfl, ?_⟩
          have h1' : 1 ≤ z.length := by omega
          have h2' : z.length ≤ 6 := by omega
          have e : nameB (.str z) = (((z.cps.toList.take (signsD z).length).map fun c => (decide (97 ≤ c) && decide (c ≤ 122))).all id) := by
            have hl : (signsD z).length = z.cps.toList.length := by unfold signsD; rw [List.length_map]
            rw [hl, List.take_length]
            simp [nameB, h1', h2', List.all_map]
          rw [e] at hR
          exact hR
    · refine ks_one (ks_ret (k_bl ?_))
      have e : nameB (.str z) = false := by
        have : ¬ 1 ≤ z.length := by omega
        simp [nameB, this]
      rw [e] at hR
      exact hR
  | _ => exact ks_one (ks_ret (k_bl hR))
theorem scIsOf : FnScope ["boxes", "kind", "part"] ["boxes", "kind", "part"] (defScope sIsOf) := ⟨rfl, rfl, rfl, by decide +kernel, rfl, by decide +kernel, by decide +kernel⟩
theorem d_isof (B : Blt mg) (D1 : Dn P w K mg base "is_name" 1 cName) (D2 : Dn P w K mg base "is_from_to" 2 cBetw) (F : Fn0 K mg "_is_of" sIsOf ["boxes", "kind", "part"]) : Dn P w K mg base "_is_of" 3 cIsOf := by
  refine dn F scIsOf (fun as R ⟨bs, k, d, e, _⟩ => by subst e; rfl) fun f cdv A outer s H E w0 as R hr hC => ?_
  obtain ⟨bs, k, d, rfl, hz, hR⟩ := hC
  show KSs _ _ _ [some (.dat (.list (bs.map .str))), some (.dat (kdD k)), some (.dat d)] _
  refine ks_cons (ks_if (kt_val (k_isi rfl B.isi rfl B.tup b_tup (k_var 1 rfl rfl ⟨_, kit_tup _, ?_⟩))))
  cases k with
  | words ws =>
    refine ks_one (ks_ret (k_and (k_isi rfl B.isi rfl B.str b_str (k_var 2 rfl rfl ⟨_, kit_str d, ?_⟩))))
    cases d with
    | str z =>
      refine k_one (k_cm dc_in (k_var 2 rfl rfl (k_var 1 rfl rfl ⟨_, _, rfl, flatDs_strs ws, ?_⟩)))
      rw [inV_strs]
      exact hR
    | _ => exact hR
  | name =>
    refine ks_nil (ks_cons (ks_if (kt_cm dc_seq (k_var 1 rfl rfl (k_str (iteD (fun _ => ?_) (fun h => absurd h (by decide +kernel))))))))
    exact ks_one (ks_ret (k_cd D1 hr (by decide) rfl (ka_cons (k_var 2 rfl rfl (ka_nil ⟨rfl, d, rfl, hz, hR⟩)))))
  | box =>
    refine ks_nil (ks_cons (ks_if (kt_cm dc_seq (k_var 1 rfl rfl (k_str (iteD (fun h => absurd h (by decide +kernel)) (fun _ => ?_)))))))
    refine ks_nil (ks_cons (ks_if (kt_cm dc_seq (k_var 1 rfl rfl (k_str (iteD (fun _ => ?_) (fun h => absurd h (by decide +kernel))))))))
    refine ks_one (ks_ret (k_and (k_isi rfl B.isi rfl B.str b_str (k_var 2 rfl rfl ⟨_, kit_str d, ?_⟩))))
    cases d with
    | str z =>
      refine k_one (k_cm dc_in (k_var 2 rfl rfl (k_var 0 rfl rfl ⟨_, _, rfl, flatDs_strs bs, ?_⟩)))
      rw [inV_strs]
      exact hR
    | _ => exact hR
  | number =>
    refine ks_nil (ks_cons (ks_if (kt_cm dc_seq (k_var 1 rfl rfl (k_str (iteD (fun h => absurd h (by decide +kernel)) (fun _ => ?_)))))))
    refine ks_nil (ks_cons (ks_if (kt_cm dc_seq (k_var 1 rfl rfl (k_str (iteD (fun h => absurd h (by decide +kernel)) (fun _ => ?_)))))))
    refine ks_nil (ks_cons (ks_if (kt_cm dc_seq (k_var 1 rfl rfl (k_str (iteD (fun _ => ?_) (fun h => absurd h (by decide +kernel))))))))
    exact ks_one (ks_ret (k_cd D2 hr (by decide) rfl (ka_cons (k_var 2 rfl rfl (ka_cons (k_int (ka_cons (k_int (ka_nil ⟨rfl, d, 0, 9, rfl, hR⟩)))))))))
  | many =>
    refine ks_nil (ks_cons (ks_if (kt_cm dc_seq (k_var 1 rfl rfl (k_str (iteD (fun h => absurd h (by decide +kernel)) (fun _ => ?_)))))))
    refine ks_nil (ks_cons (ks_if (kt_cm dc_seq (k_var 1 rfl rfl (k_str (iteD (fun h => absurd h (by decide +kernel)) (fun _ => ?_)))))))
    refine ks_nil (ks_cons (ks_if (kt_cm dc_seq (k_var 1 rfl rfl (k_str (iteD (fun h => absurd h (by decide +kernel)) (fun _ => ?_)))))))
    refine ks_nil (ks_cons (ks_if (kt_cm dc_seq (k_var 1 rfl rfl (k_str (iteD (fun _ => ?_) (fun h => absurd h (by decide +kernel))))))))
    exact ks_one (ks_ret (k_cd D2 hr (by decide) rfl (ka_cons (k_var 2 rfl rfl (ka_cons (k_int (ka_cons (k_int (ka_nil ⟨rfl, d, 1, 8, rfl, hR⟩)))))))))
  | what =>
    refine ks_nil (ks_cons (ks_if (kt_cm dc_seq (k_var 1 rfl rfl (k_str (iteD (fun h => absurd h (by decide +kernel)) (fun _ => ?_)))))))
    refine ks_nil (ks_cons (ks_if (kt_cm dc_seq (k_var 1 rfl rfl (k_str (iteD (fun h => absurd h (by decide +kernel)) (fun _ => ?_)))))))
    refine ks_nil (ks_cons (ks_if (kt_cm dc_seq (k_var 1 rfl rfl (k_str (iteD (fun h => absurd h (by decide +kernel)) (fun _ => ?_)))))))
    refine ks_nil (ks_cons (ks_if (kt_cm dc_seq (k_var 1 rfl rfl (k_str (iteD (fun h => absurd h (by decide +kernel)) (fun _ => ?_)))))))
    refine ks_nil (ks_cons (ks_if (kt_cm dc_seq (k_var 1 rfl rfl (k_str (iteD (fun h => absurd h (by decide +kernel)) (fun _ => ?_)))))))
    refine ks_nil (ks_one (ks_ret (k_or (k_cd D1 hr (by decide) rfl (ka_cons (k_var 2 rfl rfl (ka_nil ⟨rfl, d, rfl, hz, ?_⟩)))))))
    have hR : R (.dat (.bool (nameB d || betwB 0 9 d))) := hR
    show iteP (nameB d) _ _
    cases hn : nameB d with
    | true =>
      rw [hn] at hR
      exact hR
    | false =>
      rw [hn] at hR
      exact k_one (k_cd D2 hr (by decide) rfl (ka_cons (k_var 2 rfl rfl (ka_cons (k_int (ka_cons (k_int (ka_nil ⟨rfl, d, 0, 9, rfl, hR⟩))))))))
/-- a tuple with a text ahead -/
def wordB : PyData → Bool
  | .tuple (.str _ :: _) => true
  | _ => false
def optV : Option (List Kd) → PyData
  | none => .none
  | some ks => .tuple (ks.map kdD)
def partsB (bs : List Str) (o : Option (List Kd)) (rest : List PyData) : Bool := match o with
  | none => false
  | some ks => decide (rest.length = ks.length) && (ks.zip rest).all fun p => fitsB bs p.1 p.2
def cWord : List AV → (AV → Prop) → Prop := fun as R => ∃ d, as = [.dat d] ∧ R (.dat (.bool (wordB d)))
def cParts : List AV → (AV → Prop) → Prop := fun as R => ∃ (bs : List Str) (o : Option (List Kd)) (x : PyData) (rest : List PyData), as = [.dat (.list (bs.map .str)), .dat (optV o), .dat (.tuple (x :: rest))] ∧ (∀ ks, o = some ks → ks.length ≤ 5) ∧ (∀ y ∈ rest, okL y) ∧ R (.dat (.bool (partsB bs o rest)))
theorem scWorded : FnScope ["thing"] ["thing"] (defScope sWorded) := ⟨rfl, rfl, rfl, by decide +kernel, rfl, by decide +kernel, by decide +kernel⟩
theorem d_worded (B : Blt mg) (F : Fn0 K mg "is_worded" sWorded ["thing"]) : Dn P w K mg base "is_worded" 1 cWord := by
  refine dn F scWorded (fun as R ⟨d, e, _⟩ => by subst e; rfl) fun f cdv A outer s H E w0 as R hr hC => ?_
  obtain ⟨d, rfl, hR⟩ := hC
  show KSs _ _ _ [some (.dat d)] _
  refine ks_one (ks_ret (k_and (k_isi rfl B.isi rfl B.tup b_tup (k_var 0 rfl rfl ⟨_, kit_tup d, ?_⟩))))
  cases d with
  | tuple ds =>
    refine k_and (k_cm dc_gt (k_cB dl_len rfl B.len b_len (ka_cons (k_var 0 rfl rfl (ka_nil (k_int ?_))))))
    cases ds with
    | nil => exact hR
    | cons x rest =>
      have e : decide ((0 : Int) < (((x :: rest).length : Nat) : Int)) = true := decide_eq_true (by rw [List.length_cons]; omega)
      show iteP (decide ((0 : Int) < (((x :: rest).length : Nat) : Int))) _ _
      rw [e]
      refine k_one (k_isi rfl B.isi rfl B.str b_str (k_idx (fun _ _ => rfl) (k_var 0 rfl rfl (k_int ⟨x, atI_nat (j := 0) rfl, _, kit_str x, ?_⟩))))
      cases x <;> exact hR
  | _ => exact hR
abbrev nParts : List Str := ["boxes", "kinds", "thing", "kind", "part"]
theorem scParts : FnScope nParts ["boxes", "kinds", "thing"] (defScope sParts) := ⟨rfl, rfl, rfl, by decide +kernel, rfl, by decide +kernel, by decide +kernel⟩
theorem d_parts (B : Blt mg) (D3 : Dn P w K mg base "_is_of" 3 cIsOf) (F : Fn0 K mg "has_parts" sParts ["boxes", "kinds", "thing"]) : Dn P w K mg base "has_parts" 4 cParts := by
  refine dn F scParts (fun as R ⟨bs, o, x, rest, e, _⟩ => by subst e; rfl) fun f cdv A outer s H E w0 as R hr hC => ?_
  obtain ⟨bs, o, x, rest, rfl, hk5, hz2, hR⟩ := hC
  show KSs _ _ _ [some (.dat (.list (bs.map .str))), some (.dat (optV o)), some (.dat (.tuple (x :: rest))), none, none] _
  cases o with
  | none => exact ks_cons (ks_if (kt_w (kw_or (kt_cm dc_is (k_var 1 rfl rfl (k_non (ks_one (ks_ret (k_bl hR)))))))))
  | some ks =>
    refine ks_cons (ks_if (kt_w (kw_or (kt_cm dc_is (k_var 1 rfl rfl (k_non ?_))))))
    refine kw_or1 (kt_cm dc_sne (k_cB dl_len rfl B.len b_len (ka_cons (k_var 2 rfl rfl (ka_nil ?_)))))
    refine k_add (k_int (k_cB dl_len rfl B.len b_len (ka_cons (k_var 1 rfl rfl (ka_nil ?_)))))
    have hR : R (.dat (.bool (decide (rest.length = ks.length) && (ks.zip rest).all fun p => fitsB bs p.1 p.2))) := hR
    refine iteN (fun h2 => ?_) (fun h2 => ?_)
    · refine ks_one (ks_ret (k_bl ?_))
      have e : ¬ rest.length = ks.length := fun q => h2 (by rw [List.length_map, List.length_cons]; omega)
      simpa [e] using hR
    · have e : rest.length = ks.length := by rw [List.length_map, List.length_cons] at h2; omega
      refine ks_nil (ks_one (ks_ret (k_cB (dl_all rfl) rfl B.all b_all (ka_cons (k_ofN ?_)))))
      refine kn_lc (own := [("kind", 3), ("part", 4)]) (g := gTup K 2 (gCons (gName 3) (gCons (gName 4) gNil))) rfl scParts.nd (blkOk_by (N := nParts) (sc := defScope sParts) (by decide +kernel)) (tgok2 3 4 (by decide))
        (fun _ _ _ _ _ => pg_tup rfl (pgs_cons (pg_name (i := 3) scParts.nd rfl (Or.inl rfl)) (pgs_cons (pg_name (i := 4) scParts.nd rfl (Or.inl rfl)) pgs_nil)))
        (ki_zip rfl B.zip ?_)
      refine ka_cons (k_var 1 rfl rfl ?_)
      refine ka_cons (k_slc (k_var 2 rfl rfl ?_))
      refine ko_some (k_int ?_)
      refine ko_none ?_
      refine ka_nil ⟨ks.map kdD, rest, ?_, ?_, ?_, fun i es => es = (((ks.zip rest).take i).map fun p => fitsB bs p.1 p.2).map .bool, rfl, fun i d acc hd hp => ?_, fun es he => ?_⟩
      · have e1 : Kp.cutD (x :: rest) (some 1) none = rest := by
          unfold Kp.cutD
          rw [show (some (1 : Int)) = some ((1 : Nat) : Int) from rfl, HT.sIx_nat, HT.sIx_none, List.length_cons]
          have e2 : min 1 (rest.length + 1) = 1 := by omega
          rw [e2, List.drop_one, List.tail_cons, Nat.add_sub_cancel, List.take_length]
        rw [e1]
        rfl
      · rw [List.length_map]; exact e.symm
      · rw [List.length_map, List.length_zip, List.length_map]
        have := hk5 ks rfl
        omega
      · rw [List.getElem?_map] at hd
        cases hzp : ((ks.map kdD).zip rest)[i]? with
        | none => rw [hzp] at hd; cases hd
        | some y =>
          rw [hzp] at hd
          obtain ⟨z1, z2⟩ := List.getElem?_zip_eq_some.mp hzp
          rw [List.getElem?_map] at z1
          cases hk1 : ks[i]? with
          | none => rw [hk1] at z1; cases z1
          | some k =>
            rw [hk1] at z1
            have y1 : kdD k = y.1 := Option.some.inj z1
            have hd : d = .tuple [kdD k, y.2] := by rw [y1]; exact (Option.some.inj hd).symm
            subst hd
            subst hp
            show BE _ _ _ _ [some (.dat (.list (bs.map .str))), some (.dat (.tuple (ks.map kdD))), some (.dat (.tuple (x :: rest))), some (.dat (kdD k)), some (.dat y.2)] _
            refine fun _ _ _ _ _ => k_cd D3 hr (by decide) rfl (ka_cons (k_var 0 rfl rfl (ka_cons (k_var 3 rfl rfl (ka_cons (k_var 4 rfl rfl (ka_nil ⟨rfl, bs, k, y.2, rfl, hz2 _ (List.mem_of_getElem? z2), ?_⟩)))))))
            show _ = _
            have hq : (ks.zip rest)[i]? = some (k, y.2) := List.getElem?_zip_eq_some.mpr ⟨hk1, z2⟩
            rw [List.take_add_one, hq]
            simp
      · subst he
        refine ka_nil ⟨_, rfl, ?_⟩
        have hl : (((ks.map kdD).zip rest).map fun x => PyData.tuple [x.1, x.2]).length = (ks.zip rest).length := by
          rw [List.length_map, List.length_zip, List.length_zip, List.length_map]
        rw [hl, List.take_length, List.all_map]
        simpa [e] using hR
theorem scDeed : FnScope ["boxes", "thing"] ["boxes", "thing"] (defScope sIsDeed) := ⟨rfl, rfl, rfl, by decide +kernel, rfl, by decide +kernel, by decide +kernel⟩
theorem d_deed (B : Blt mg) {dA : Addr} {es : Array DictEntry} {n : Nat} (KD : KDict K w dA es n) (gD : mg "DEEDS" = some (.ref dA)) (hV : ∀ z, ∃ o v, PySem.W.nsIn K dA z = some o ∧ RelV v (o.getD .none) ∧ ∀ H, Dd K H v (kindsV z))
    (D1 : Dn P w K mg base "is_worded" 1 cWord) (D2 : Dn P w K mg base "has_parts" 4 cParts) (F : Fn0 K mg "is_deed" sIsDeed ["boxes", "thing"]) : Dn P w K mg base "is_deed" 5 cDeed := by
  refine dn F scDeed (fun as R ⟨bs, d, e, _⟩ => by subst e; rfl) fun f cdv A outer s H E w0 as R hr hC => ?_
  obtain ⟨bs, d, rfl, hz, hR⟩ := hC
  show KSs _ _ _ [some (.dat (.list (bs.map .str))), some (.dat d)] _
  refine ks_one (ks_ret (k_and (k_cd D1 hr (by decide) rfl (ka_cons (k_var 1 rfl rfl (ka_nil ⟨rfl, d, rfl, ?_⟩))))))
  cases d with
  | tuple ds =>
    cases ds with
    | nil => exact hR
    | cons x rest =>
      cases x with
      | str z =>
        obtain ⟨hz1, hz2, _⟩ := hz
        refine k_one (k_cd D2 hr (by decide) rfl (ka_cons (k_var 0 rfl rfl (ka_cons ?_))))
        refine k_kget (hu_of hr) KD rfl gD ⟨rfl, rfl, rfl, rfl⟩ kindsV hV (k_idx (fun _ _ => rfl) (k_var 1 rfl rfl (k_int ⟨.str z, atI_nat (j := 0) rfl, z, rfl, ?_⟩)))
        refine ka_cons (k_var 1 rfl rfl (ka_nil ⟨rfl, bs, kindsOf z, .str z, rest, ?_, fun ks h => kindsOf_len z ks h, fun y hy => hz2 y (List.mem_cons_of_mem _ hy), ?_⟩))
        · unfold kindsV optV
          rfl
        · exact hR
      | _ => exact hR
  | _ => exact hR
end
end K61

namespace K61
open PySem PySem.Spec PyProof.Rows L2 Kp
abbrev lPool : Stmt := top 34
abbrev lTake : Stmt := top 35
abbrev lPicked : Stmt := top 36
abbrev lDeed : Stmt := top 37
theorem rangeD_len (lo : Int) (n : Nat) : (rangeD lo n).length = n := by unfold rangeD; rw [List.length_map, List.length_range]
theorem rangeD_at {lo : Int} {n i : Nat} {d : PyData} (h : (rangeD lo n)[i]? = some d) : i < n ∧ d = .int (lo + i) := by
  have hl : i < n := by
    have := (List.getElem?_eq_some_iff.mp h).1
    rwa [rangeD_len] at this
  refine ⟨hl, ?_⟩
  unfold rangeD at h
  rw [List.getElem?_map, List.getElem?_range hl] at h
  exact (Option.some.inj h).symm
def wR : List Str := ["plain", "loose", "taking"]
def wG : List Str := ["plain", "loose", "giving"]
def wH : List Str := ["add", "put"]
def wC : List Str := ["loose", "giving", "taking", "both"]
def wK : List Str := ["giving", "taking", "both"]
def wI : List Str := ["is", "isnt"]
end K61

namespace K61
open PySem PySem.Spec PyProof.Rows L2 Kp
section
variable {base : Heap} {K : PySem.W.Frag} {w : World} {P : Program} {mg : Str → Option Value}
abbrev nTake : List Str := ["_law_pool_here", "_law_size", "_law_found"]
theorem scTake : FnScope nTake ["_law_pool_here", "_law_size"] (defScope lTake) := ⟨rfl, rfl, rfl, by decide +kernel, rfl, by decide +kernel, by decide +kernel⟩
theorem two0 {x y : Int} : atI [V.int x, V.int y] 0 = some (V.int x) := rfl
theorem two1 {x y : Int} : atI [V.int x, V.int y] 1 = some (V.int y) := rfl
theorem l_take (F : Fn0 K mg "_law_take" lTake ["_law_pool_here", "_law_size"]) : Dn P w K mg base "_law_take" 1 cTake := by
  obtain ⟨f, fd, F, hm, hb⟩ := F
  refine ⟨f, fd, _, take_pool (F.ok (sp := spTakeL) scTake (fun vs H Q E ⟨p, x, y, n, e, _⟩ => by subst e; rfl) fun cdv A outer s H vs Q E hr hC => ?_) rfl, hm, F.kp, hb⟩
  obtain ⟨p, x, y, n, rfl, hp, hy, n0, n1, hQ⟩ := hC
  refine ⟨_, pss_cons (ps_if (pt_cmpR op_gt (pe_ix ix_seq (pv 0) pe_int fun _ _ => rfl) pe_int rfl)
      (pss_cons (ps_set (i := 2) scTake.nd rfl (Or.inl rfl) (pe_op op_mod (pe_ix ix_seq (pv 0) pe_int fun _ _ => rfl) (pv 1)))
        (pss_cons (ps_asg (pe_op op_fdiv (pe_ix ix_seq (pv 0) pe_int fun _ _ => rfl) (pv 1)) (pg_sub (pv 0) pe_int set_list)) (pss_one (ps_ret (pv 2))))) pss_nil)
    (pss_cons (ps_asg (pe_op op_mod (pe_op op_add (pe_op op_mul (pe_ix ix_seq (pv 0) pe_int fun _ _ => rfl) pe_int) pe_int) pe_int) (pg_sub (pv 0) pe_int set_list))
      (pss_one (ps_ret (pe_op op_mod (pe_op op_fdiv (pe_op op_mod (pe_op op_mul (pe_ix ix_seq (pv 0) pe_int fun _ _ => rfl) (pe_ix ix_seq (pv 0) pe_int fun _ _ => rfl)) pe_int) pe_int) (pv 1))))), ?_⟩
  obtain ⟨y0, y1⟩ := hy
  refine ⟨_, rfl, .inl ⟨p, _, 0, _, rfl, rfl, .inl (.inl hp), two0, _, _, rfl, rfl, _, rfl, ?_⟩⟩
  by_cases hx : 0 < x
  · rw [decide_eq_true hx]
    refine iteT ?_
    refine ⟨_, rfl, .inl ⟨p, _, 0, _, rfl, rfl, .inl (.inl hp), two0, _, rfl, x, n, rfl, rfl, n0, ?_⟩⟩
    refine ⟨_, rfl, .inl ⟨p, _, 0, _, rfl, rfl, .inl (.inl hp), two0, _, rfl, x, n, rfl, rfl, ⟨n0, n1⟩, ?_⟩⟩
    refine ⟨_, rfl, p, _, 0, 0, rfl, rfl, hp, rfl, _, rfl, ?_⟩
    exact hQ (x % n) (x / n) y ⟨y0, y1⟩ (Int.emod_nonneg _ (by omega)) (Int.emod_lt_of_pos _ n0)
  · rw [decide_eq_false hx]
    refine iteF ?_
    refine ⟨_, rfl, .inl ⟨p, _, 1, _, rfl, rfl, .inl (.inl hp), two1, _, _, rfl, rfl, .inr ⟨by decide, by decide⟩, _, _, rfl, rfl, _, _, rfl, rfl, (show (0 : Int) < 2147483647 by decide), ?_⟩⟩
    refine ⟨_, rfl, p, _, 1, 1, rfl, rfl, hp, rfl, ?_⟩
    have e1 : 0 ≤ (y * 48271 + 11) % 2147483647 := Int.emod_nonneg _ (by decide)
    have e2 : (y * 48271 + 11) % 2147483647 < 2147483647 := Int.emod_lt_of_pos _ (by decide)
    refine ⟨_, rfl, .inl ⟨p, _, 1, _, rfl, rfl, .inl (.inl upd_same), two1, _, rfl, .inl ⟨p, _, 1, _, rfl, rfl, .inl (.inl upd_same), two1, _, _, rfl, rfl, .inl ⟨by omega, by omega⟩, _, _, rfl, rfl, (show (0 : Int) < 2147483629 by decide), _, _, rfl, rfl, ⟨by decide, by decide⟩, _, rfl, _, _, rfl, rfl, n0, ?_⟩⟩⟩
    exact hQ _ x _ ⟨e1, e2⟩ (Int.emod_nonneg _ (by omega)) (Int.emod_lt_of_pos _ n0)
end
end K61

namespace K61
open PySem PySem.Spec PyProof.Rows L2 Kp
section
variable {base : Heap} {K : PySem.W.Frag} {w : World} {P : Program} {mg : Str → Option Value}
abbrev nPool : List Str := ["_law_script", "_law_k", "_law_cell", "_law_seed"]
theorem scPool : FnScope nPool ["_law_script", "_law_k"] (defScope lPool) := ⟨rfl, rfl, rfl, by decide +kernel, rfl, by decide +kernel, by decide +kernel⟩
theorem ex_free {H H' : Hp} {p : Addr} (e : Ex H H') (h : H' p = none) : H p = none := by
  cases q : H p with
  | none => rfl
  | some o =>
    have := e p o q
    rw [h] at this
    cases this
theorem head_int {l : List V} (h : ∀ v ∈ l, ∃ i : Int, v = .int i) : ∃ c : Int, atI (l ++ [V.int 0]) 0 = some (.int c) := by
  cases l with
  | nil => exact ⟨0, rfl⟩
  | cons v l =>
    obtain ⟨i, rfl⟩ := h v List.mem_cons_self
    exact ⟨i, atI_nat (j := 0) rfl⟩
theorem cut_int {ns : List Int} {lo hi : Option Int} : (∀ v ∈ cutV (ns.map V.int) lo hi, ∃ i : Int, v = .int i) ∧ (cutV (ns.map V.int) lo hi).length ≤ ns.length := by
  unfold cutV
  refine ⟨fun v h => ?_, ?_⟩
  · have := List.mem_of_mem_drop (List.mem_of_mem_take h)
    obtain ⟨i, _, e⟩ := List.mem_map.mp this
    exact ⟨i, e.symm⟩
  · rw [List.length_take, List.length_drop, List.length_map]
    omega
theorem l_pool (B : Blt mg) (F : Fn0 K mg "_law_pool" lPool ["_law_script", "_law_k"]) : Dn P w K mg base "_law_pool" 1 cPool := by
  obtain ⟨f, fd, F, hm, hb⟩ := F
  refine ⟨f, fd, _, pool_pool (F.ok (sp := spPoolL K) scPool (fun vs H Q E ⟨p, ns, k, e, _⟩ => by subst e; rfl) fun cdv A outer s H vs Q E hr hC => ?_) rfl, hm, F.kp, hb⟩
  obtain ⟨a, ns, k, rfl, ha, hl, k0, k1, hQ⟩ := hC
  refine ⟨_, pss_cons (ps_set (i := 2) scPool.nd rfl (Or.inl rfl) (pe_ix ix_seq (pe_op op_cat (pe_slice sl_list (pv 0) (po_some (pv 1)) (po_some (pe_op op_add (pv 1) pe_int))) (pe_lst (pa_cons pe_int pa_nil))) pe_int fun _ _ => rfl))
    (pss_cons (ps_set (i := 3) scPool.nd rfl (Or.inl rfl) (pe_op op_mod (pe_op op_mul (pe_op op_add (pe_op op_add (pe_op op_mod (pv 2) pe_int) (pe_op op_mul pe_int (pv 1))) pe_int) pe_int) pe_int))
      (pss_one (ps_ret (pe_lst (pa_cons (pe_op op_mul (pe_callTy call_int1 rfl B.int b_int (pa_cons (pe_cmpR op_ge (pv 2) (pe_op op_pow pe_int pe_int) rfl) pa_nil)) (pv 2)) (pa_cons (pv 3) pa_nil)))))), ?_⟩
  obtain ⟨c1, c2⟩ := cut_int (ns := ns) (lo := some k) (hi := some (k + 1))
  obtain ⟨c, hc⟩ := head_int c1
  refine ⟨_, rfl, _, rfl, k, rfl, _, rfl, k, 1, rfl, rfl, k + 1, rfl, a, _, rfl, ha, fun p1 h1 => ⟨by decide, fun p2 h2 => ?_⟩⟩
  have e1 : upd (upd H p1 (.lst (cutV (ns.map V.int) (some k) (some (k + 1))))) p2 (.lst [V.int 0]) p1 = some (.lst (cutV (ns.map V.int) (some k) (some (k + 1)))) := by
    rw [upd_ne (ne_of_none upd_same h2)]
    exact upd_same
  refine ⟨p1, p2, _, _, rfl, rfl, e1, upd_same, Nat.le_trans (Nat.add_le_add c2 (Nat.le_refl 1)) (Nat.le_trans (Nat.add_le_add hl (Nat.le_refl 1)) (by decide)), fun p3 h3 => ?_⟩
  refine .inl ⟨p3, _, 0, _, rfl, rfl, .inl (.inl upd_same), hc, ?_⟩
  refine ⟨_, rfl, c, _, rfl, rfl, (show (0 : Int) < 2147483647 by decide), _, rfl, 7919, k, rfl, rfl, .inl ⟨by decide, by decide⟩, _, _, rfl, rfl, _, _, rfl, rfl, _, _, rfl, rfl, .inr ⟨by decide, by decide⟩, _, _, rfl, rfl, (show (0 : Int) < 2147483629 by decide), ?_⟩
  refine ⟨_, rfl, 10, 18, rfl, rfl, ⟨by decide, by decide, by decide⟩, c, _, rfl, rfl, .inr ⟨_, rfl, _, rfl, _, c, rfl, rfl, .inl ?_, _, rfl, (show 2 ≤ sizeLine by decide), fun p4 h4 => ?_⟩⟩
  · by_cases q : (10 : Int) ^ (18 : Int).toNat ≤ c
    · rw [decide_eq_true q]; exact ⟨by decide, by decide⟩
    · rw [decide_eq_false q]; exact ⟨by decide, by decide⟩
  · have x3 := ((Ex.new h1).trans (Ex.new h2)).trans (Ex.new (o := .lst (cutV (ns.map V.int) (some k) (some (k + 1)) ++ [V.int 0])) h3)
    refine hQ p4 _ _ _ (ex_free x3 h4) ⟨Int.emod_nonneg _ (by decide), Int.lt_trans (Int.emod_lt_of_pos _ (by decide)) (by decide)⟩ (x3.trans (Ex.new h4)) upd_same
end
end K61

namespace K61
open PySem PySem.Spec PyProof.Rows L2 Kp
section
variable {base : Heap} {K : PySem.W.Frag} {w : World} {P : Program} {mg : Str → Option Value}
/-- some of a menu of texts, each as often as it stands there -/
def cPicked : List AV → (AV → Prop) → Prop := fun as R => ∃ (ms : List Str) (n : Int), as = [.pool, .dat (.list (ms.map .str)), .dat (.int n)] ∧ ms.length ≤ 1000 ∧ 0 ≤ n ∧ n ≤ 1000 ∧
  ∀ ys rest : List Str, (ys ++ rest).Perm ms → (ys.length : Int) = min n ms.length → R (.dat (.list (ys.map .str)))
abbrev nPicked : List Str := ["_law_pool_here", "_law_menu", "_law_size", "_law_left", "_law_turn"]
theorem scPicked : FnScope nPicked ["_law_pool_here", "_law_menu", "_law_size"] (defScope lPicked) := ⟨rfl, rfl, rfl, by decide +kernel, rfl, by decide +kernel, by decide +kernel⟩
theorem map_erase {α β : Type} (f : α → β) : ∀ (l : List α) (i : Nat), (l.map f).eraseIdx i = (l.eraseIdx i).map f
  | [], _ => rfl
  | _ :: _, 0 => rfl
  | x :: l, i + 1 => by
    show f x :: (l.map f).eraseIdx i = f x :: (l.eraseIdx i).map f
    rw [map_erase f l i]
theorem perm_erase {α : Type} : ∀ {l : List α} {i : Nat} (h : i < l.length), (l[i] :: l.eraseIdx i).Perm l
  | x :: l, 0, _ => List.Perm.refl _
  | x :: l, i + 1, h => (List.Perm.swap _ _ _).trans (List.Perm.cons x (perm_erase (l := l) (i := i) (Nat.lt_of_succ_lt_succ h)))
abbrev tePick (K : PySem.W.Frag) : TE := tBM K "list" rPopAt (tVar 3) (tCons (tCall (spA K cTake) [] E0 (tCons (tVar 0) (tCons (tCB (fun xs H Q => ∃ p ys, xs = [V.ref p] ∧ (SqL K H p ys ∨ SqT K H p ys) ∧ Q (V.int (ys.length : Nat)) H) (tCons (tVar 3) tNil)) tNil))) tNil)
theorem l_picked (B : Blt mg) (D : Dn P w K mg base "_law_take" 1 cTake) (F : Fn0 K mg "_law_picked" lPicked ["_law_pool_here", "_law_menu", "_law_size"]) : Dn P w K mg base "_law_picked" 2 cPicked := by
  obtain ⟨tf, td, tps, TF, tm, tk, tb⟩ := D
  refine dnL (sp := spA K cPicked) F scPicked (fun vs H Q E ⟨w0, as, R, e, hv, hc, q⟩ => ?_) (fun vs H Q E h => h) fun f cdv A outer s H vs Q E hr hC => ?_
  · obtain ⟨_, ms, n, rfl, _⟩ := hc
    exact hv.length
  · obtain ⟨w0, as, R, rfl, hv, ⟨_, ms, n, rfl, hz, n0, n1, hR⟩, q⟩ := hC
    cases hv with
    | cons hp hv =>
    cases hv with
    | cons hm hv =>
    cases hv with
    | cons hn hv =>
    cases hv
    cases hn
    obtain ⟨pa, rfl, hp⟩ := hp
    cases hm with
    | @lst ma xs _ m1 m2 =>
    have m2 := DdA.strs m2
    subst m2
    refine ⟨_, pss_cons (ps_set (i := 3) scPicked.nd rfl (Or.inr rfl) (pe_callTy call_list_of rfl B.list b_list (pa_cons (pv 1) pa_nil)))
      (pss_one (ps_ret (by
        refine pe_lc (own := [("_law_turn", 4)]) (te := tePick K) rfl scPicked.nd (pi_range1 rfl B.range (pa_cons (pe_callB (call_min2 rfl) rfl B.min b_min (pa_cons (pv 2) (pa_cons (pe_callB call_len_seq rfl B.len b_len (pa_cons (pv 3) pa_nil)) pa_nil))) pa_nil))
          (blkOk_by (N := nPicked) (sc := defScope lPicked) (by decide +kernel)) (fun _ _ _ _ _ => pg_name (i := 4) scPicked.nd rfl (Or.inl rfl)) (fun _ _ _ _ _ => pts_nil) (fun s1 H1 C1 cl1 fp1 => ?_)
        exact pe_bm PySem.F.plainAttrs_list PySem.F.slot_list_pop PySem.F.type_list_pop mt_popAt (pv 3) (pa_cons (pe_call TF (hr.mono (Nat.le_refl _)) rfl tm tk tb .nil pass0 (pa_cons (pv 0) (pa_cons (pe_callB call_len_seq rfl B.len b_len (pa_cons (pv 3) pa_nil)) pa_nil))) pa_nil)))), ?_⟩
    have m1' := w0.sub _ _ m1
    refine ⟨_, rfl, ma, _, rfl, .inl (SqL.of m1'), fun L hL => ?_⟩
    have eL : Ex w0.h (upd w0.h L (.lst (ms.map V.str))) := Ex.new hL
    refine ⟨_, rfl, _, rfl, L, _, rfl, .inl (SqL.of upd_same), n, _, rfl, ?_⟩
    have hcnt : (if ((ms.map V.str).length : Int) < n then ((ms.map V.str).length : Int) else n) = min n ms.length := by
      rw [List.length_map]
      split <;> omega
    refine ⟨_, rfl, ?_, ?_, fun D hD => ?_⟩
    · show -2 ^ 62 ≤ (if ((ms.map V.str).length : Int) < n then ((ms.map V.str).length : Int) else n)
      rw [hcnt]; omega
    · show (if ((ms.map V.str).length : Int) < n then ((ms.map V.str).length : Int) else n) < 2 ^ 62
      rw [hcnt]; omega
    have hLD : D ≠ L := fun z => by rw [z, upd_same] at hD; cases hD
    have hD0 : w0.h D = none := by rw [upd_ne hLD] at hD; exact hD
    refine ⟨fun i m H' => m = (min n ms.length).toNat - i ∧ i ≤ (min n ms.length).toNat ∧ ∃ (acc left : List Str), H' D = some (.lst (acc.map .str)) ∧ H' L = some (.lst (left.map .str)) ∧ Ex w0.h H' ∧ acc.length = i ∧ (acc ++ left).Perm ms,
      ⟨_, rfl, Nat.zero_le _, [], ms, upd_same, by rw [upd_ne hLD.symm]; exact upd_same, eL.trans (Ex.new hD), rfl, List.Perm.refl _⟩, ?_⟩
    rintro i m H' ⟨rfl, hi, acc, left, h1, h2, h3, h4, h5⟩
    by_cases hlt : i < (min n ms.length).toNat
    · refine .inr ⟨?_, fun H' => i + 1 ≤ (min n ms.length).toNat ∧ ∃ (acc left : List Str), H' D = some (.lst (acc.map .str)) ∧ H' L = some (.lst (left.map .str)) ∧ Ex w0.h H' ∧ acc.length = i + 1 ∧ (acc ++ left).Perm ms, fun H2 iv => ⟨_, ?_, rfl, iv.1, iv.2⟩, ?_⟩
      · show i < _
        rw [hcnt]; exact hlt
      · omega
      · rintro x H2 ⟨rfl, rfl⟩
        refine ⟨rfl, ?_⟩
        unfold tYes
        show (if true = true then _ else _)
        rw [if_pos rfl]
        have hlen : acc.length + left.length = ms.length := by rw [← List.length_append]; exact h5.length_eq
        have hl0 : 0 < left.length := by omega
        refine ⟨_, rfl, .inl ⟨rfl, _, SqL.of h2⟩, _, rfl, _, rfl, L, _, rfl, .inl (SqL.of h2), ?_⟩
        refine ⟨⟨w0.g, H2, w0.sub.trans h3, w0.st⟩, [.pool, .dat (.int (left.length : Nat))], fun a => ∃ r : Nat, a = .dat (.int r) ∧ r < left.length, rfl, .cons ⟨pa, rfl, hp⟩ (.cons (by
          rw [List.length_map]
          exact .int _) .nil), ⟨rfl, _, rfl, by omega, by omega, fun r r0 r1 => ⟨r.toNat, by rw [Int.toNat_of_nonneg r0], by omega⟩⟩, ?_⟩
        rintro v a w2 l2 hv ⟨r, rfl, hr1⟩
        cases hv
        have g1 : w2.h L = some (.lst (left.map .str)) := l2.h _ _ h2
        have g2 : w2.h D = some (.lst (acc.map .str)) := l2.h _ _ h1
        have hx : left[r]? = some left[r] := by simp [hr1]
        have hsq : seqIndex? (r : Int) (left.map V.str).length = some r := by
          unfold seqIndex?
          have q1 : ¬ ((r : Int) < 0) := by omega
          have q2 : (decide (0 ≤ (r : Int)) && decide ((r : Int) < ((left.map V.str).length : Nat))) = true := by
            rw [List.length_map]
            simp only [Bool.and_eq_true, decide_eq_true_eq]
            omega
          simp only [if_neg q1]
          rw [if_pos q2]
          rfl
        refine ⟨L, _, (r : Int), r, V.str left[r], rfl, rfl, g1, by omega, by omega, hsq, by rw [List.getElem?_map, hx]; rfl, ?_⟩
        refine ⟨acc.map .str, by rw [upd_ne hLD]; exact g2, ?_, ?_⟩
        · rw [List.length_map]
          exact Nat.lt_of_lt_of_le (show acc.length < 1001 by omega) (by decide)
        · refine ⟨by omega, acc ++ [left[r]], left.eraseIdx r, ?_, ?_, fun b o e => ?_, ?_, ?_⟩
          · rw [upd_same, List.map_append]
            rfl
          · rw [upd_ne hLD.symm, upd_same, map_erase]
          · have n1 : b ≠ D := ne_of_none e hD0
            have n2 : b ≠ L := ne_of_none e hL
            rw [upd_ne n1, upd_ne n2]
            exact l2.h _ _ (h3 _ _ e)
          · rw [List.length_append, h4]
            rfl
          · refine List.Perm.trans ?_ h5
            rw [List.append_assoc]
            exact List.Perm.append_left _ (perm_erase hr1)
    · have e : i = (min n ms.length).toNat := by omega
      refine .inl ⟨?_, ?_⟩
      · show _ ≤ i
        rw [hcnt, e]; exact Nat.le_refl _
      · have gD : w0.g D = none := w0.gfree hD0
        have sub : Ex (upd w0.g D (.lst (acc.map V.str))) H' := fun b o e => by
          by_cases z : b = D
          · subst z
            rw [upd_same] at e
            rw [← e]
            exact h1
          · rw [upd_ne z] at e
            exact h3 _ _ (w0.sub _ _ e)
        have le : Le w0 ⟨upd w0.g D (.lst (acc.map V.str)), H', sub, w0.st⟩ := ⟨Ex.new gD, h3, fun b b1 b2 => by
          have z : b ≠ D := fun z => b1 (by rw [z]; exact hD0)
          show upd w0.g D _ b = none
          rw [upd_ne z]
          exact b2⟩
        refine q (.ref D) (.dat (.list (acc.map .str))) _ le (.lst upd_same (DdA.ofStrs acc)) (hR acc left h5 ?_)
        rw [h4, e]
        omega
end
end K61

namespace K61
open PySem PySem.Spec PyProof.Rows L2 Kp
section
variable {base : Heap} {K : PySem.W.Frag} {w : World} {P : Program} {mg : Str → Option Value}
def bMenu : List Str := ["x", "y", "hand", "abc"]
end
end K61

namespace K61
open PySem PySem.Spec PyProof.Rows L2 Kp
theorem kz1 : kindsOf "read" = some [.name, .box, .words ["plain", "loose", "taking"]] := rfl
theorem kz2 : kindsOf "write" = some [.box, .what, .words ["plain", "loose", "giving"]] := rfl
theorem kz3 : kindsOf "change" = some [.name, .box, .words ["add", "put"], .what, .words ["loose", "giving", "taking", "both"]] := rfl
theorem kz4 : kindsOf "swap" = some [.name, .box, .number, .what, .words ["loose", "giving", "taking", "both"]] := rfl
theorem kz5 : kindsOf "wait" = some [.name, .box, .number, .words ["plain", "loose", "taking"]] := rfl
theorem kz6 : kindsOf "grab" = some [.name, .box, .number, .what, .words ["loose", "giving", "taking", "both"]] := rfl
theorem kz7 : kindsOf "fence" = some [.words ["giving", "taking", "both"]] := rfl
theorem kz8 : kindsOf "skip" = some [.name, .words ["is", "isnt"], .number, .many] := rfl
theorem kz9 : kindsOf "claim" = some [.name, .words ["is", "isnt"], .number] := rfl
def short (z : Str) : Bool := decide (z.length ≤ 20) && PyData.strOk z
/-- a deed over these boxes, small -/
def Gd (bs : List Str) (d : PyData) : Prop := deedB bs d = true ∧ sm 1 d = true ∧ noD d = true ∧ ∃ ds, d = .tuple ds ∧ 2 ≤ ds.length ∧ ds.length ≤ 6
theorem gd_of {bs : List Str} {z : Str} {ks : List Kd} {rest : List PyData} (hz : short z = true) (hk : kindsOf z = some ks) (hl : rest.length = ks.length) (h1 : 1 ≤ ks.length) (hf : ∀ p ∈ ks.zip rest, fitsB bs p.1 p.2 = true) (hs : ∀ d ∈ rest, sm 0 d = true) : Gd bs (.tuple (.str z :: rest)) := by
  have h5 := kindsOf_len z ks hk
  refine ⟨?_, ?_, ?_, _, rfl, ?_, ?_⟩
  · show (match kindsOf z with | none => false | some ks => decide (rest.length = ks.length) && (ks.zip rest).all fun p => fitsB bs p.1 p.2) = true
    rw [hk]
    show (decide (rest.length = ks.length) && (ks.zip rest).all fun p => fitsB bs p.1 p.2) = true
    rw [decide_eq_true hl, Bool.true_and, List.all_eq_true]
    exact hf
  · show (decide ((PyData.str z :: rest).length ≤ 20) && (PyData.str z :: rest).all (sm 0)) = true
    rw [Bool.and_eq_true, decide_eq_true_eq, List.all_eq_true]
    refine ⟨by rw [List.length_cons]; omega, fun d hd => ?_⟩
    rcases List.mem_cons.mp hd with q | q
    · subst q; exact hz
    · exact hs d q
  · exact noDA_of (fun d hd => by
      rcases List.mem_cons.mp hd with q | q
      · subst q; exact hz
      · exact hs d q)
  · rw [List.length_cons]; omega
  · rw [List.length_cons]; omega
where
  noDA_of : ∀ {ds : List PyData}, (∀ d ∈ ds, sm 0 d = true) → noDA ds = true
    | [], _ => rfl
    | d :: ds, h => by
      have h0 : noD d = true := by
        have := h d List.mem_cons_self
        cases d <;> first | rfl | cases this
      show (noD d && noDA ds) = true
      rw [h0, noDA_of fun x hx => h x (List.mem_cons_of_mem _ hx)]
      rfl
def cMk : List AV → (AV → Prop) → Prop := fun as R => ∃ (bs ns : List Str) (way : Int), as = [.pool, .dat (.list (bs.map .str)), .dat (.list (ns.map .str)), .dat (.int way)] ∧ (1 ≤ bs.length ∧ bs.length ≤ 8 ∧ 1 ≤ ns.length ∧ ns.length ≤ 8) ∧ (∀ z ∈ bs, short z = true) ∧ (∀ z ∈ ns, nameB (.str z) = true ∧ short z = true) ∧ 0 ≤ way ∧ way < 14 ∧
  ∀ d, Gd bs d → R (.dat d)
theorem fit_word {bs ws : List Str} {z : Str} (h : z ∈ ws) : fitsB bs (.words ws) (.str z) = true := decide_eq_true h
theorem fit_box {bs : List Str} {z : Str} (h : z ∈ bs) : fitsB bs .box (.str z) = true := decide_eq_true h
theorem fit_num {bs : List Str} {i : Int} (h0 : 0 ≤ i) (h1 : i ≤ 9) : fitsB bs .number (.int i) = true := by
  show (decide (0 ≤ i) && decide (i ≤ 9)) = true
  rw [decide_eq_true h0, decide_eq_true h1]; rfl
theorem fit_many {bs : List Str} {i : Int} (h0 : 1 ≤ i) (h1 : i ≤ 8) : fitsB bs .many (.int i) = true := by
  show (decide (1 ≤ i) && decide (i ≤ 8)) = true
  rw [decide_eq_true h0, decide_eq_true h1]; rfl
theorem sm_int {i : Int} (h0 : 0 ≤ i) (h1 : i ≤ 100) : sm 0 (.int i) = true := decide_eq_true (show i.natAbs < 10 ^ 21 by omega)
theorem sm_words {ws : List Str} {z : Str} (h : z ∈ ws) (q : ws.all short = true) : sm 0 (.str z) = true := List.all_eq_true.mp q z h
end K61

namespace K61
open PySem PySem.Spec PyProof.Rows L2 Kp
section
variable {base : Heap} {K : PySem.W.Frag} {w : World} {P : Program} {mg : Str → Option Value}
abbrev nDeed : List Str := ["_law_pool_here", "_law_shelves", "_law_names", "_law_way", "_law_name", "_law_box", "_law_figure", "_law_what", "_law_reading", "_law_writing", "_law_changing", "_law_word", "_law_size", "_law_some"]
theorem scMk : FnScope nDeed ["_law_pool_here", "_law_shelves", "_law_names", "_law_way"] (defScope lDeed) := ⟨rfl, rfl, rfl, by decide +kernel, rfl, by decide +kernel, by decide +kernel⟩
def wAP : List Str := ["add", "put"]
theorem at_anyI {ds : List PyData} {i : Int} (h0 : 0 ≤ i) (h1 : i < ds.length) : ∃ d, atI ds i = some d ∧ d ∈ ds := by
  obtain ⟨d, e1, e2⟩ := at_any (ds := ds) (r := i.toNat) (by rw [Int.toNat_of_nonneg h0]; exact h1)
  rw [Int.toNat_of_nonneg h0] at e1
  exact ⟨d, e1, e2⟩
theorem cut14 {l : List PyData} (h : l.length = 9) : (l ++ Kp.cutD l none (some 3) ++ Kp.cutD l none (some 2)).length = 14 := by
  match l, h with
  | [a1, a2, a3, a4, a5, a6, a7, a8, a9], _ => rfl
theorem l_mk (B : Blt mg) (Dt : Dn P w K mg base "_law_take" 1 cTake) (F : Fn0 K mg "_law_deed" lDeed ["_law_pool_here", "_law_shelves", "_law_names", "_law_way"]) : Dn P w K mg base "_law_deed" 2 cMk := by
  refine dn F scMk (fun as R ⟨bs, ns, way, e, _⟩ => by subst e; rfl) fun f cdv A outer s H E w0 as R hr hC => ?_
  obtain ⟨bs, ns, way, rfl, ⟨b1, b2, n1, n2⟩, hb, hn, w1, w2, hR⟩ := hC
  show KSs _ _ _ [some .pool, some (.dat (.list (bs.map .str))), some (.dat (.list (ns.map .str))), some (.dat (.int way)), none, none, none, none, none, none, none, none, none, none] _
  refine ks_cons (ks_set 4 scMk.nd rfl (.inl rfl) (k_pick 0 Dt hr (by decide) rfl rfl rfl (k_var 2 rfl rfl (k_cB dl_len rfl B.len b_len (ka_cons (k_var 2 rfl rfl (ka_nil ⟨?_, ?_, Int.le_refl _, fun d hd => ?_⟩)))))))
  · rw [List.length_map]; omega
  · rw [List.length_map]; omega
  obtain ⟨nm, hnm, rfl⟩ := List.mem_map.mp hd
  show KSs _ _ _ [some .pool, some (.dat (.list (bs.map .str))), some (.dat (.list (ns.map .str))), some (.dat (.int way)), some (.dat (.str nm)), none, none, none, none, none, none, none, none, none] _
  refine ks_cons (ks_set 5 scMk.nd rfl (.inl rfl) (k_pick 0 Dt hr (by decide) rfl rfl rfl (k_var 1 rfl rfl (k_cB dl_len rfl B.len b_len (ka_cons (k_var 1 rfl rfl (ka_nil ⟨?_, ?_, Int.le_refl _, fun d hd => ?_⟩)))))))
  · rw [List.length_map]; omega
  · rw [List.length_map]; omega
  obtain ⟨bx, hbx, rfl⟩ := List.mem_map.mp hd
  show KSs _ _ _ [some .pool, some (.dat (.list (bs.map .str))), some (.dat (.list (ns.map .str))), some (.dat (.int way)), some (.dat (.str nm)), some (.dat (.str bx)), none, none, none, none, none, none, none, none] _
  refine ks_cons (ks_set 6 scMk.nd rfl (.inl rfl) (k_pick 0 Dt hr (by decide) rfl rfl rfl (k_lst ?_)))
  refine ka_cons (k_int (ka_cons (k_int (ka_cons (k_int (ka_cons (k_int (ka_cons (k_int (ka_nil ⟨Nat.le_of_ble_eq_true rfl, k_int ⟨by decide, by decide, (show (5 : Int) ≤ ((5 : Nat) : Int) by decide), fun d hd => ?_⟩⟩))))))))))
  obtain ⟨fg, g0, g1, rfl⟩ : ∃ fg : Int, 0 ≤ fg ∧ fg ≤ 9 ∧ d = .int fg := by
    simp only [List.mem_cons, List.not_mem_nil, or_false] at hd
    rcases hd with rfl | rfl | rfl | rfl | rfl
    · exact ⟨0, by decide, by decide, rfl⟩
    · exact ⟨1, by decide, by decide, rfl⟩
    · exact ⟨1, by decide, by decide, rfl⟩
    · exact ⟨2, by decide, by decide, rfl⟩
    · exact ⟨9, by decide, by decide, rfl⟩
  show KSs _ _ _ [some .pool, some (.dat (.list (bs.map .str))), some (.dat (.list (ns.map .str))), some (.dat (.int way)), some (.dat (.str nm)), some (.dat (.str bx)), some (.dat (.int fg)), none, none, none, none, none, none, none] _
  refine ks_cons (ks_set 7 scMk.nd rfl (.inl rfl) (k_pick 0 Dt hr (by decide) rfl rfl rfl (k_lst (ka_cons (k_var 6 rfl rfl (ka_cons (k_var 6 rfl rfl (ka_cons (k_pick 0 Dt hr (by decide) rfl rfl rfl (k_var 2 rfl rfl (k_cB dl_len rfl B.len b_len (ka_cons (k_var 2 rfl rfl (ka_nil ⟨?_, ?_, Int.le_refl _, fun d hd => ka_nil ?_⟩))))))))))))))
  · rw [List.length_map]; omega
  · rw [List.length_map]; omega
  obtain ⟨n2', hn2, rfl⟩ := List.mem_map.mp hd
  refine ⟨Nat.le_of_ble_eq_true rfl, k_int ⟨by decide, by decide, (show (3 : Int) ≤ ((3 : Nat) : Int) by decide), fun wt hd => ?_⟩⟩
  have hw : fitsB bs .what wt = true ∧ sm 0 wt = true := by
    have hf : fitsB bs .what (.int fg) = true ∧ sm 0 (.int fg) = true := by
      refine ⟨?_, sm_int g0 (by omega)⟩
      show (nameB (.int fg) || (decide (0 ≤ fg) && decide (fg ≤ 9))) = true
      rw [decide_eq_true g0, decide_eq_true g1]
      rfl
    rcases List.mem_cons.mp hd with q | q
    · subst q; exact hf
    rcases List.mem_cons.mp q with q | q
    · subst q; exact hf
    · have q := List.mem_singleton.mp q
      subst q
      refine ⟨?_, (hn _ hn2).2⟩
      show (nameB (.str n2') || betwB 0 9 (.str n2')) = true
      rw [(hn _ hn2).1]
      rfl
  show KSs _ _ _ [some .pool, some (.dat (.list (bs.map .str))), some (.dat (.list (ns.map .str))), some (.dat (.int way)), some (.dat (.str nm)), some (.dat (.str bx)), some (.dat (.int fg)), some (.dat wt), none, none, none, none, none, none] _
  refine ks_cons (ks_set 8 scMk.nd rfl (.inl rfl) (k_pick 0 Dt hr (by decide) rfl rfl rfl (k_strs (zs := wR) rfl (by decide) (k_int ⟨by decide, by decide, by decide, fun d hd => ?_⟩))))
  obtain ⟨rd, hrd, rfl⟩ := List.mem_map.mp hd
  show KSs _ _ _ [some .pool, some (.dat (.list (bs.map .str))), some (.dat (.list (ns.map .str))), some (.dat (.int way)), some (.dat (.str nm)), some (.dat (.str bx)), some (.dat (.int fg)), some (.dat wt), some (.dat (.str rd)), none, none, none, none, none] _
  refine ks_cons (ks_set 9 scMk.nd rfl (.inl rfl) (k_pick 0 Dt hr (by decide) rfl rfl rfl (k_strs (zs := wG) rfl (by decide) (k_int ⟨by decide, by decide, by decide, fun d hd => ?_⟩))))
  obtain ⟨wr, hwr, rfl⟩ := List.mem_map.mp hd
  show KSs _ _ _ [some .pool, some (.dat (.list (bs.map .str))), some (.dat (.list (ns.map .str))), some (.dat (.int way)), some (.dat (.str nm)), some (.dat (.str bx)), some (.dat (.int fg)), some (.dat wt), some (.dat (.str rd)), some (.dat (.str wr)), none, none, none, none] _
  refine ks_cons (ks_set 10 scMk.nd rfl (.inl rfl) (k_pick 0 Dt hr (by decide) rfl rfl rfl (k_strs (zs := wC) rfl (by decide) (k_int ⟨by decide, by decide, by decide, fun d hd => ?_⟩))))
  obtain ⟨ch, hch, rfl⟩ := List.mem_map.mp hd
  show KSs _ _ _ [some .pool, some (.dat (.list (bs.map .str))), some (.dat (.list (ns.map .str))), some (.dat (.int way)), some (.dat (.str nm)), some (.dat (.str bx)), some (.dat (.int fg)), some (.dat wt), some (.dat (.str rd)), some (.dat (.str wr)), some (.dat (.str ch)), none, none, none] _
  refine ks_cons (ks_set 11 scMk.nd rfl (.inl rfl) (k_pick 0 Dt hr (by decide) rfl rfl rfl (k_strs (zs := wI) rfl (by decide) (k_int ⟨by decide, by decide, by decide, fun d hd => ?_⟩))))
  obtain ⟨wd, hwd, rfl⟩ := List.mem_map.mp hd
  show KSs _ _ _ [some .pool, some (.dat (.list (bs.map .str))), some (.dat (.list (ns.map .str))), some (.dat (.int way)), some (.dat (.str nm)), some (.dat (.str bx)), some (.dat (.int fg)), some (.dat wt), some (.dat (.str rd)), some (.dat (.str wr)), some (.dat (.str ch)), some (.dat (.str wd)), none, none] _
  refine ks_cons (ks_set 12 scMk.nd rfl (.inl rfl) (k_add (k_int (k_take 0 Dt hr (by decide) rfl rfl rfl (k_int ⟨by decide, by decide, fun sz hsz => ?_⟩)))))
  show KSs _ _ _ [some .pool, some (.dat (.list (bs.map .str))), some (.dat (.list (ns.map .str))), some (.dat (.int way)), some (.dat (.str nm)), some (.dat (.str bx)), some (.dat (.int fg)), some (.dat wt), some (.dat (.str rd)), some (.dat (.str wr)), some (.dat (.str ch)), some (.dat (.str wd)), some (.dat (.int (1 + (sz : Int)))), none] _
  have hrd' := sm_words hrd (by decide +kernel)
  have hwr' := sm_words hwr (by decide +kernel)
  have hch' := sm_words hch (by decide +kernel)
  have hwd' := sm_words hwd (by decide +kernel)
  refine ks_cons (ks_setN 13 scMk.nd rfl (.inl rfl) (kn_lst (ka_cons (k_tup ?_))))
  refine ka_cons (k_str ?_)
  refine ka_cons (k_var 4 rfl rfl ?_)
  refine ka_cons (k_var 5 rfl rfl ?_)
  refine ka_cons (k_var 8 rfl rfl ?_)
  refine ka_nil ⟨Nat.le_of_ble_eq_true rfl, ?_⟩
  refine ka_cons (k_tup ?_)
  refine ka_cons (k_str ?_)
  refine ka_cons (k_var 5 rfl rfl ?_)
  refine ka_cons (k_var 7 rfl rfl ?_)
  refine ka_cons (k_var 9 rfl rfl ?_)
  refine ka_nil ⟨Nat.le_of_ble_eq_true rfl, ka_nil ⟨Nat.le_of_ble_eq_true rfl, ?_⟩⟩
  show KSs _ _ _ [some .pool, some (.dat (.list (bs.map .str))), some (.dat (.list (ns.map .str))), some (.dat (.int way)), some (.dat (.str nm)), some (.dat (.str bx)), some (.dat (.int fg)), some (.dat wt), some (.dat (.str rd)), some (.dat (.str wr)), some (.dat (.str ch)), some (.dat (.str wd)), some (.dat (.int (1 + (sz : Int)))), some (.buf [.tuple [.str "read", .str nm, .str bx, .str rd], .tuple [.str "write", .str bx, wt, .str wr]])] _
  refine ks_cons (ks_app 13 rfl rfl (Nat.le_of_ble_eq_true rfl) (k_tup ?_))
  refine ka_cons (k_str ?_)
  refine ka_cons (k_var 4 rfl rfl ?_)
  refine ka_cons (k_var 5 rfl rfl ?_)
  refine ka_cons (k_pick 0 Dt hr (by decide) rfl rfl rfl (k_strs (zs := wAP) rfl (by decide) (k_int ⟨by decide, by decide, by decide, fun d hd => ?_⟩)))
  obtain ⟨hw', hhw, rfl⟩ := List.mem_map.mp hd
  refine ka_cons (k_var 7 rfl rfl ?_)
  refine ka_cons (k_var 10 rfl rfl ?_)
  refine ka_nil ⟨Nat.le_of_ble_eq_true rfl, ?_⟩
  show KSs _ _ _ [some .pool, some (.dat (.list (bs.map .str))), some (.dat (.list (ns.map .str))), some (.dat (.int way)), some (.dat (.str nm)), some (.dat (.str bx)), some (.dat (.int fg)), some (.dat wt), some (.dat (.str rd)), some (.dat (.str wr)), some (.dat (.str ch)), some (.dat (.str wd)), some (.dat (.int (1 + (sz : Int)))), some (.buf [.tuple [.str "read", .str nm, .str bx, .str rd], .tuple [.str "write", .str bx, wt, .str wr], .tuple [.str "change", .str nm, .str bx, .str hw', wt, .str ch]])] _
  refine ks_freeze 13 rfl ?_
  show KSs _ _ _ [some .pool, some (.dat (.list (bs.map .str))), some (.dat (.list (ns.map .str))), some (.dat (.int way)), some (.dat (.str nm)), some (.dat (.str bx)), some (.dat (.int fg)), some (.dat wt), some (.dat (.str rd)), some (.dat (.str wr)), some (.dat (.str ch)), some (.dat (.str wd)), some (.dat (.int (1 + (sz : Int)))), some (.dat (.list [.tuple [.str "read", .str nm, .str bx, .str rd], .tuple [.str "write", .str bx, wt, .str wr], .tuple [.str "change", .str nm, .str bx, .str hw', wt, .str ch]]))] _
  refine ks_cons (ks_set 13 scMk.nd rfl (.inl rfl) (k_add (k_var 13 rfl rfl (k_lst ?_))))
  refine ka_cons (k_tup ?_)
  refine ka_cons (k_str ?_)
  refine ka_cons (k_var 4 rfl rfl ?_)
  refine ka_cons (k_var 5 rfl rfl ?_)
  refine ka_cons (k_var 6 rfl rfl ?_)
  refine ka_cons (k_var 7 rfl rfl ?_)
  refine ka_cons (k_var 10 rfl rfl ?_)
  refine ka_nil ⟨Nat.le_of_ble_eq_true rfl, ?_⟩
  refine ka_cons (k_tup ?_)
  refine ka_cons (k_str ?_)
  refine ka_cons (k_var 4 rfl rfl ?_)
  refine ka_cons (k_var 5 rfl rfl ?_)
  refine ka_cons (k_var 6 rfl rfl ?_)
  refine ka_cons (k_var 8 rfl rfl ?_)
  refine ka_nil ⟨Nat.le_of_ble_eq_true rfl, ka_nil ⟨Nat.le_of_ble_eq_true rfl, Nat.le_of_ble_eq_true rfl, ?_⟩⟩
  show KSs _ _ _ [some .pool, some (.dat (.list (bs.map .str))), some (.dat (.list (ns.map .str))), some (.dat (.int way)), some (.dat (.str nm)), some (.dat (.str bx)), some (.dat (.int fg)), some (.dat wt), some (.dat (.str rd)), some (.dat (.str wr)), some (.dat (.str ch)), some (.dat (.str wd)), some (.dat (.int (1 + (sz : Int)))), some (.dat (.list [.tuple [.str "read", .str nm, .str bx, .str rd], .tuple [.str "write", .str bx, wt, .str wr], .tuple [.str "change", .str nm, .str bx, .str hw', wt, .str ch], .tuple [.str "swap", .str nm, .str bx, .int fg, wt, .str ch], .tuple [.str "wait", .str nm, .str bx, .int fg, .str rd]]))] _
  refine ks_cons (ks_set 13 scMk.nd rfl (.inl rfl) (k_add (k_var 13 rfl rfl (k_lst ?_))))
  refine ka_cons (k_tup ?_)
  refine ka_cons (k_str ?_)
  refine ka_cons (k_var 4 rfl rfl ?_)
  refine ka_cons (k_var 5 rfl rfl ?_)
  refine ka_cons (k_var 6 rfl rfl ?_)
  refine ka_cons (k_var 7 rfl rfl ?_)
  refine ka_cons (k_var 10 rfl rfl ?_)
  refine ka_nil ⟨Nat.le_of_ble_eq_true rfl, ?_⟩
  refine ka_cons (k_tup ?_)
  refine ka_cons (k_str ?_)
  refine ka_cons (k_idx (fun _ _ => rfl) (k_strs (zs := wK) rfl (by decide) (k_mod (k_var 12 rfl rfl (k_int ?_)))))
  refine ⟨by decide, ?_⟩
  obtain ⟨fd, e1, e2⟩ := at_anyI (ds := wK.map .str) (i := (1 + (sz : Int)) % 3) (by omega) (by show _ < (3 : Int); omega)
  obtain ⟨fm, hfm, rfl⟩ := List.mem_map.mp e2
  refine ⟨_, e1, ka_nil ⟨Nat.le_of_ble_eq_true rfl, ka_nil ⟨Nat.le_of_ble_eq_true rfl, Nat.le_of_ble_eq_true rfl, ?_⟩⟩⟩
  show KSs _ _ _ [some .pool, some (.dat (.list (bs.map .str))), some (.dat (.list (ns.map .str))), some (.dat (.int way)), some (.dat (.str nm)), some (.dat (.str bx)), some (.dat (.int fg)), some (.dat wt), some (.dat (.str rd)), some (.dat (.str wr)), some (.dat (.str ch)), some (.dat (.str wd)), some (.dat (.int (1 + (sz : Int)))), some (.dat (.list [.tuple [.str "read", .str nm, .str bx, .str rd], .tuple [.str "write", .str bx, wt, .str wr], .tuple [.str "change", .str nm, .str bx, .str hw', wt, .str ch], .tuple [.str "swap", .str nm, .str bx, .int fg, wt, .str ch], .tuple [.str "wait", .str nm, .str bx, .int fg, .str rd], .tuple [.str "grab", .str nm, .str bx, .int fg, wt, .str ch], .tuple [.str "fence", .str fm]]))] _
  refine ks_cons (ks_set 13 scMk.nd rfl (.inl rfl) (k_add (k_var 13 rfl rfl (k_lst ?_))))
  refine ka_cons (k_tup ?_)
  refine ka_cons (k_str ?_)
  refine ka_cons (k_var 4 rfl rfl ?_)
  refine ka_cons (k_var 11 rfl rfl ?_)
  refine ka_cons (k_var 6 rfl rfl ?_)
  refine ka_cons (k_var 12 rfl rfl ?_)
  refine ka_nil ⟨Nat.le_of_ble_eq_true rfl, ?_⟩
  refine ka_cons (k_tup ?_)
  refine ka_cons (k_str ?_)
  refine ka_cons (k_var 4 rfl rfl ?_)
  refine ka_cons (k_var 11 rfl rfl ?_)
  refine ka_cons (k_var 6 rfl rfl ?_)
  refine ka_nil ⟨Nat.le_of_ble_eq_true rfl, ka_nil ⟨Nat.le_of_ble_eq_true rfl, Nat.le_of_ble_eq_true rfl, ?_⟩⟩
  show KSs _ _ _ [some .pool, some (.dat (.list (bs.map .str))), some (.dat (.list (ns.map .str))), some (.dat (.int way)), some (.dat (.str nm)), some (.dat (.str bx)), some (.dat (.int fg)), some (.dat wt), some (.dat (.str rd)), some (.dat (.str wr)), some (.dat (.str ch)), some (.dat (.str wd)), some (.dat (.int (1 + (sz : Int)))), some (.dat (.list [.tuple [.str "read", .str nm, .str bx, .str rd], .tuple [.str "write", .str bx, wt, .str wr], .tuple [.str "change", .str nm, .str bx, .str hw', wt, .str ch], .tuple [.str "swap", .str nm, .str bx, .int fg, wt, .str ch], .tuple [.str "wait", .str nm, .str bx, .int fg, .str rd], .tuple [.str "grab", .str nm, .str bx, .int fg, wt, .str ch], .tuple [.str "fence", .str fm], .tuple [.str "skip", .str nm, .str wd, .int fg, .int (1 + (sz : Int))], .tuple [.str "claim", .str nm, .str wd, .int fg]]))] _
  refine ks_one (ks_ret (k_idx (fun _ _ => rfl) (k_add (k_add (k_var 13 rfl rfl (k_slc (k_var 13 rfl rfl ?_)))))))
  refine ko_none (ko_some (k_int ?_))
  refine ⟨Nat.le_of_ble_eq_true rfl, k_slc (k_var 13 rfl rfl (ko_none (ko_some (k_int ⟨Nat.le_of_ble_eq_true rfl, k_var 3 rfl rfl ?_⟩))))⟩
  obtain ⟨d, e1, e2⟩ := at_anyI (ds := [.tuple [.str "read", .str nm, .str bx, .str rd], .tuple [.str "write", .str bx, wt, .str wr], .tuple [.str "change", .str nm, .str bx, .str hw', wt, .str ch], .tuple [.str "swap", .str nm, .str bx, .int fg, wt, .str ch], .tuple [.str "wait", .str nm, .str bx, .int fg, .str rd], .tuple [.str "grab", .str nm, .str bx, .int fg, wt, .str ch], .tuple [.str "fence", .str fm], .tuple [.str "skip", .str nm, .str wd, .int fg, .int (1 + (sz : Int))], .tuple [.str "claim", .str nm, .str wd, .int fg]] ++ Kp.cutD [.tuple [.str "read", .str nm, .str bx, .str rd], .tuple [.str "write", .str bx, wt, .str wr], .tuple [.str "change", .str nm, .str bx, .str hw', wt, .str ch], .tuple [.str "swap", .str nm, .str bx, .int fg, wt, .str ch], .tuple [.str "wait", .str nm, .str bx, .int fg, .str rd], .tuple [.str "grab", .str nm, .str bx, .int fg, wt, .str ch], .tuple [.str "fence", .str fm], .tuple [.str "skip", .str nm, .str wd, .int fg, .int (1 + (sz : Int))], .tuple [.str "claim", .str nm, .str wd, .int fg]] none (some 3) ++ Kp.cutD [.tuple [.str "read", .str nm, .str bx, .str rd], .tuple [.str "write", .str bx, wt, .str wr], .tuple [.str "change", .str nm, .str bx, .str hw', wt, .str ch], .tuple [.str "swap", .str nm, .str bx, .int fg, wt, .str ch], .tuple [.str "wait", .str nm, .str bx, .int fg, .str rd], .tuple [.str "grab", .str nm, .str bx, .int fg, wt, .str ch], .tuple [.str "fence", .str fm], .tuple [.str "skip", .str nm, .str wd, .int fg, .int (1 + (sz : Int))], .tuple [.str "claim", .str nm, .str wd, .int fg]] none (some 2)) (i := way) w1 (by
    rw [cut14 (l := [.tuple [.str "read", .str nm, .str bx, .str rd], .tuple [.str "write", .str bx, wt, .str wr], .tuple [.str "change", .str nm, .str bx, .str hw', wt, .str ch], .tuple [.str "swap", .str nm, .str bx, .int fg, wt, .str ch], .tuple [.str "wait", .str nm, .str bx, .int fg, .str rd], .tuple [.str "grab", .str nm, .str bx, .int fg, wt, .str ch], .tuple [.str "fence", .str fm], .tuple [.str "skip", .str nm, .str wd, .int fg, .int (1 + (sz : Int))], .tuple [.str "claim", .str nm, .str wd, .int fg]]) rfl]
    exact w2)
  have cm : ∀ {ds : List PyData} {lo hi : Option Int} {d : PyData}, d ∈ Kp.cutD ds lo hi → d ∈ ds := fun {ds lo hi d} h => by
    unfold Kp.cutD at h
    exact List.mem_of_mem_drop (List.mem_of_mem_take h)
  refine ⟨d, e1, hR d ?_⟩
  have e2 : d ∈ [.tuple [.str "read", .str nm, .str bx, .str rd], .tuple [.str "write", .str bx, wt, .str wr], .tuple [.str "change", .str nm, .str bx, .str hw', wt, .str ch], .tuple [.str "swap", .str nm, .str bx, .int fg, wt, .str ch], .tuple [.str "wait", .str nm, .str bx, .int fg, .str rd], .tuple [.str "grab", .str nm, .str bx, .int fg, wt, .str ch], .tuple [.str "fence", .str fm], .tuple [.str "skip", .str nm, .str wd, .int fg, .int (1 + (sz : Int))], .tuple [.str "claim", .str nm, .str wd, .int fg]] := by
    rcases List.mem_append.mp e2 with q | q
    · rcases List.mem_append.mp q with q | q
      · exact q
      · exact cm q
    · exact cm q
  have q1 := fit_box hbx
  have q2 : fitsB bs .name (.str nm) = true := (hn _ hnm).1
  have q3 := fit_num (bs := bs) g0 g1
  have q4 := hw.1
  have s1 : sm 0 (.str bx) = true := hb _ hbx
  have s2 : sm 0 (.str nm) = true := (hn _ hnm).2
  have s3 := sm_int g0 (by omega : fg ≤ 100)
  have s4 := hw.2
  have s5 := sm_words hhw (by decide +kernel)
  have s6 := sm_words hfm (by decide +kernel)
  have s7 := sm_int (i := 1 + (sz : Int)) (by omega) (by omega)
  have q5 := fit_many (bs := bs) (i := 1 + (sz : Int)) (by omega) (by omega)
  simp only [List.mem_cons, List.not_mem_nil, or_false] at e2
  rcases e2 with rfl | rfl | rfl | rfl | rfl | rfl | rfl | rfl | rfl
  · refine gd_of (by decide +kernel) kz1 rfl (by decide) ?_ ?_
    · simp only [List.zip_cons_cons, List.zip_nil_right, List.forall_mem_cons]
      exact ⟨q2, q1, fit_word hrd, fun _ h => nomatch h⟩
    · simp only [List.forall_mem_cons]
      exact ⟨s2, s1, hrd', fun _ h => nomatch h⟩
  · refine gd_of (by decide +kernel) kz2 rfl (by decide) ?_ ?_
    · simp only [List.zip_cons_cons, List.zip_nil_right, List.forall_mem_cons]
      exact ⟨q1, q4, fit_word hwr, fun _ h => nomatch h⟩
    · simp only [List.forall_mem_cons]
      exact ⟨s1, s4, hwr', fun _ h => nomatch h⟩
  · refine gd_of (by decide +kernel) kz3 rfl (by decide) ?_ ?_
    · simp only [List.zip_cons_cons, List.zip_nil_right, List.forall_mem_cons]
      exact ⟨q2, q1, fit_word hhw, q4, fit_word hch, fun _ h => nomatch h⟩
    · simp only [List.forall_mem_cons]
      exact ⟨s2, s1, s5, s4, hch', fun _ h => nomatch h⟩
  · refine gd_of (by decide +kernel) kz4 rfl (by decide) ?_ ?_
    · simp only [List.zip_cons_cons, List.zip_nil_right, List.forall_mem_cons]
      exact ⟨q2, q1, q3, q4, fit_word hch, fun _ h => nomatch h⟩
    · simp only [List.forall_mem_cons]
      exact ⟨s2, s1, s3, s4, hch', fun _ h => nomatch h⟩
  · refine gd_of (by decide +kernel) kz5 rfl (by decide) ?_ ?_
    · simp only [List.zip_cons_cons, List.zip_nil_right, List.forall_mem_cons]
      exact ⟨q2, q1, q3, fit_word hrd, fun _ h => nomatch h⟩
    · simp only [List.forall_mem_cons]
      exact ⟨s2, s1, s3, hrd', fun _ h => nomatch h⟩
  · refine gd_of (by decide +kernel) kz6 rfl (by decide) ?_ ?_
    · simp only [List.zip_cons_cons, List.zip_nil_right, List.forall_mem_cons]
      exact ⟨q2, q1, q3, q4, fit_word hch, fun _ h => nomatch h⟩
    · simp only [List.forall_mem_cons]
      exact ⟨s2, s1, s3, s4, hch', fun _ h => nomatch h⟩
  · refine gd_of (by decide +kernel) kz7 rfl (by decide) ?_ ?_
    · simp only [List.zip_cons_cons, List.zip_nil_right, List.forall_mem_cons]
      exact ⟨fit_word hfm, fun _ h => nomatch h⟩
    · simp only [List.forall_mem_cons]
      exact ⟨s6, fun _ h => nomatch h⟩
  · refine gd_of (by decide +kernel) kz8 rfl (by decide) ?_ ?_
    · simp only [List.zip_cons_cons, List.zip_nil_right, List.forall_mem_cons]
      exact ⟨q2, fit_word hwd, q3, q5, fun _ h => nomatch h⟩
    · simp only [List.forall_mem_cons]
      exact ⟨s2, hwd', s3, s7, fun _ h => nomatch h⟩
  · refine gd_of (by decide +kernel) kz9 rfl (by decide) ?_ ?_
    · simp only [List.zip_cons_cons, List.zip_nil_right, List.forall_mem_cons]
      exact ⟨q2, fit_word hwd, q3, fun _ h => nomatch h⟩
    · simp only [List.forall_mem_cons]
      exact ⟨s2, hwd', s3, fun _ h => nomatch h⟩
end
end K61


namespace K61
open PySem PySem.Spec PyProof.Rows L2 Kp
def nMenu : List Str := ["r", "s", "x"]
theorem nMenu_ok : ∀ z ∈ nMenu, nameB (.str z) = true ∧ short z = true := by
  have h : (nMenu.all fun z => nameB (.str z) && short z) = true := by decide +kernel
  intro z hz
  have q := List.all_eq_true.mp h z hz
  rw [Bool.and_eq_true] at q
  exact q
theorem bMenu_ok : ∀ z ∈ bMenu, nameB (.str z) = true ∧ short z = true := by
  have h : (bMenu.all fun z => nameB (.str z) && short z) = true := by decide +kernel
  intro z hz
  have q := List.all_eq_true.mp h z hz
  rw [Bool.and_eq_true] at q
  exact q
/-- boxes as the law draws them -/
structure Bxs (bs : List Str) : Prop where
  some_ : 1 ≤ bs.length ∧ bs.length ≤ 4
  of_ : ∃ rest, (bs ++ rest).Perm bMenu
  up : sortedS bs = true
/-- hands as the law draws them -/
structure Hds (bs : List Str) (most upto : Int) (hs : List (List PyData)) : Prop where
  some_ : 1 ≤ hs.length ∧ (hs.length : Int) ≤ most
  few : ∀ h ∈ hs, h.length ≤ 8
  all : ((hs.map List.length).sum : Int) ≤ upto
  good : ∀ h ∈ hs, ∀ d ∈ h, Gd bs d
def progD (bs : List Str) (hs : List (List PyData)) : PyData := .tuple [.list (bs.map .str), .list (hs.map .list)]
end K61
namespace K61
open PySem PySem.Spec PyProof.Rows L2 Kp
abbrev sLookAt : Stmt := top 21
abbrev sIsList : Stmt := top 9
abbrev sWrong : Stmt := top 23
abbrev sLBoxes : Stmt := top 24
abbrev sLHands : Stmt := top 25
abbrev sLDeeds : Stmt := top 26
def isListB (lo hi : Int) : PyData → Bool
  | .list ds => decide (lo ≤ (ds.length : Int)) && decide ((ds.length : Int) ≤ hi)
  | _ => false
def cIsList : List AV → (AV → Prop) → Prop := fun as R => ∃ (d : PyData) (lo hi : Int), as = [.dat d, .dat (.int lo), .dat (.int hi)] ∧ R (.dat (.bool (isListB lo hi d)))
def lessB (p z : Str) : Bool := decide (p.cps.toList < z.cps.toList)
def riseB : Option Str → Str → Bool
  | none, _ => true
  | some p, z => lessB p z
/-- the first place of a list that is no name, or does not rise -/
def wbox : Option Str → Nat → List PyData → Option Nat
  | _, _, [] => none
  | prev, i, .str z :: ds => if (nameB (.str z) && riseB prev z) = true then wbox (some z) (i + 1) ds else some i
  | _, i, _ :: _ => some i
def numV : Option Nat → PyData
  | none => .none
  | some n => .int (n : Int)
def cWrong : List AV → (AV → Prop) → Prop := fun as R => ∃ ds : List PyData, as = [.dat (.list ds)] ∧ ds.length ≤ 1000 ∧ (∀ d ∈ ds, okL d) ∧ R (.dat (numV (wbox none 0 ds)))
theorem enumD_len (ds : List PyData) : (enumD ds).length = ds.length := by unfold enumD; rw [List.length_map, List.length_zipIdx]
theorem enumD_at {ds : List PyData} {i : Nat} {d : PyData} (h : (enumD ds)[i]? = some d) : ∃ x, ds[i]? = some x ∧ d = .tuple [.int (i : Int), x] := by
  unfold enumD at h
  rw [List.getElem?_map, List.getElem?_zipIdx] at h
  cases q : ds[i]? with
  | none => rw [q] at h; cases h
  | some x =>
    rw [q] at h
    have h := Option.some.inj h
    refine ⟨x, rfl, ?_⟩
    rw [← h]
    show PyData.tuple [.int ((0 + i : Nat) : Int), x] = _
    rw [Nat.zero_add]
section
variable {base : Heap} {K : PySem.W.Frag} {w : World} {P : Program} {mg : Str → Option Value}
theorem scIsList : FnScope ["thing", "least", "most"] ["thing", "least", "most"] (defScope sIsList) := ⟨rfl, rfl, rfl, by decide +kernel, rfl, by decide +kernel, by decide +kernel⟩
theorem d_islist (B : Blt mg) (F : Fn0 K mg "is_list" sIsList ["thing", "least", "most"]) : Dn P w K mg base "is_list" 1 cIsList := by
  refine dn F scIsList (fun as R ⟨d, lo, hi, e, _⟩ => by subst e; rfl) fun f cdv A outer s H E w0 as R hr hC => ?_
  obtain ⟨d, lo, hi, rfl, hR⟩ := hC
  show KSs _ _ _ [some (.dat d), some (.dat (.int lo)), some (.dat (.int hi))] _
  refine ks_one (ks_ret (k_and (k_isi rfl B.isi rfl B.list b_list (k_var 0 rfl rfl ⟨_, kit_list d, ?_⟩))))
  cases d with
  | list ds =>
    have hR : R (.dat (.bool (decide (lo ≤ (ds.length : Int)) && decide ((ds.length : Int) ≤ hi)))) := hR
    refine k_one (k_chain dc_le dc_le (k_var 1 rfl rfl (k_cB dl_len rfl B.len b_len (ka_cons (k_var 0 rfl rfl (ka_nil ?_))))))
    refine iteD (fun h => ?_) (fun h => ?_)
    · refine k_var 2 rfl rfl ?_
      rw [decide_eq_true h, Bool.true_and] at hR
      exact hR
    · rw [decide_eq_false h, Bool.false_and] at hR
      exact hR
  | _ => exact hR
abbrev nWrong : List Str := ["boxes", "number", "box"]
theorem scWrong : FnScope nWrong ["boxes"] (defScope sWrong) := ⟨rfl, rfl, rfl, by decide +kernel, rfl, by decide +kernel, by decide +kernel⟩
theorem d_wrong (B : Blt mg) (he : mg "enumerate" = none) (Dn' : Dn P w K mg base "is_name" 1 cName) (F : Fn0 K mg "_wrong_box" sWrong ["boxes"]) : Dn P w K mg base "_wrong_box" 2 cWrong := by
  refine dn F scWrong (fun as R ⟨ds, e, _⟩ => by subst e; rfl) fun f cdv A outer s H E w0 as R hr hC => ?_
  obtain ⟨ds, rfl, hz, hok, hR⟩ := hC
  show KSs _ _ _ [some (.dat (.list ds)), none, none] _
  refine ks_cons (ks_for (g := gTup K 2 (gCons (gName 1) (gCons (gName 2) gNil))) PassesOwn.never rfl (tgok2 1 2 (by decide)) (pg_tup rfl (pgs_cons (pg_name (i := 1) scWrong.nd rfl (Or.inl rfl)) (pgs_cons (pg_name (i := 2) scWrong.nd rfl (Or.inl rfl)) pgs_nil))) (ki_enum rfl he (k_var 0 rfl rfl ?_)))
  refine ⟨fun i ss' => ∃ (o1 o2 : Option AV) (prev : Option Str), ss' = [some (.dat (.list ds)), o1, o2] ∧ wbox prev i (ds.drop i) = wbox none 0 ds ∧ (i = 0 → prev = none) ∧ ∀ j, i = j + 1 → ∃ p, prev = some p ∧ ds[j]? = some (.str p), ⟨_, _, none, rfl, rfl, fun _ => rfl, fun j h => nomatch h⟩, fun i d ss' hd hI => ?_, fun ss' hI => ?_⟩
  · obtain ⟨o1, o2, prev, rfl, hw, hp0, hp1⟩ := hI
    obtain ⟨x, hx, rfl⟩ := enumD_at hd
    have hi : i < ds.length := (List.getElem?_eq_some_iff.mp hx).1
    have hxm : x ∈ ds := List.mem_of_getElem? hx
    have hdr : ds.drop i = x :: ds.drop (i + 1) := by
      rw [List.drop_eq_getElem_cons hi]
      have : ds[i] = x := by
        have q := List.getElem?_eq_getElem hi
        rw [q] at hx
        exact Option.some.inj hx
      rw [this]
    rw [hdr] at hw
    show KSs _ _ _ [some (.dat (.list ds)), some (.dat (.int (i : Int))), some (.dat x)] _
    refine ks_cons (ks_if (kt_not (kt_val (k_cd Dn' hr (by decide) rfl (ka_cons (k_var 2 rfl rfl (ka_nil ⟨rfl, x, rfl, hok x hxm, ?_⟩)))))))
    have ret : wbox none 0 ds = some i → R (.dat (.int (i : Int))) := fun e => by
      rw [e] at hR
      exact hR
    cases x with
    | str z =>
      show iteP (!nameB (.str z)) _ _
      have hw : (if (nameB (.str z) && riseB prev z) = true then wbox (some z) (i + 1) (ds.drop (i + 1)) else some i) = wbox none 0 ds := hw
      cases hn : nameB (.str z) with
      | false =>
        rw [hn] at hw
        exact ks_one (ks_ret (k_var 1 rfl rfl (ret hw.symm)))
      | true =>
        rw [hn] at hw
        have next : riseB prev z = true → ∃ (o1 o2 : Option AV) (pr : Option Str), ([some (.dat (.list ds)), some (.dat (.int (i : Int))), some (.dat (.str z))] : SS) = [some (.dat (.list ds)), o1, o2] ∧ wbox pr (i + 1) (ds.drop (i + 1)) = wbox none 0 ds ∧ (i + 1 = 0 → pr = none) ∧ ∀ j, i + 1 = j + 1 → ∃ p, pr = some p ∧ ds[j]? = some (.str p) := fun g => by
          rw [g] at hw
          exact ⟨_, _, some z, rfl, hw, (fun q => absurd q (Nat.succ_ne_zero i)), fun j q => ⟨z, rfl, by rw [← Nat.succ.inj q]; exact hx⟩⟩
        refine ks_nil (ks_one (ks_if (kt_w (kw_and (kt_cm dc_gt (k_var 1 rfl rfl (k_int (iteD (fun g => ?_) (fun g => ?_)))))))))
        · obtain ⟨j, rfl⟩ : ∃ j, i = j + 1 := ⟨i - 1, by omega⟩
          obtain ⟨p, rfl, hj⟩ := hp1 j rfl
          have e1 : (((j + 1 : Nat) : Int) - 1) = (j : Int) := by omega
          refine kw_and1 (kt_cm dc_le (k_var 2 rfl rfl (k_idx (fun _ _ => rfl) (k_var 0 rfl rfl (k_sub (k_var 1 rfl rfl (k_int ⟨.str p, ?_, ?_⟩)))))))
          · rw [e1]; exact atI_nat hj
          · show iteP (!decide (p.cps.toList < z.cps.toList)) _ _
            cases hl : lessB p z with
            | true =>
              have hl' : decide (p.cps.toList < z.cps.toList) = true := hl
              rw [hl']
              exact ks_nil (next hl)
            | false =>
              have hl' : decide (p.cps.toList < z.cps.toList) = false := hl
              rw [hl']
              have hw : (if (true && lessB p z) = true then wbox (some z) (j + 1 + 1) (ds.drop (j + 1 + 1)) else some (j + 1)) = wbox none 0 ds := hw
              rw [hl] at hw
              exact ks_one (ks_ret (k_var 1 rfl rfl (ret hw.symm)))
        · have : i = 0 := by omega
          subst this
          have := hp0 rfl
          subst this
          exact ks_nil (next rfl)
    | _ => exact ks_one (ks_ret (k_var 1 rfl rfl (ret hw.symm)))
  · obtain ⟨o1, o2, prev, rfl, hw, _, _⟩ := hI
    rw [enumD_len, List.drop_length] at hw
    have e : wbox none 0 ds = none := by rw [← hw]; rfl
    rw [e] at hR
    exact ks_one (ks_ret (k_non hR))
end
end K61


namespace K61
open PySem PySem.Spec PyProof.Rows L2 Kp
def clsBody : Stmt → List Stmt
  | .ClassDef (body := b) .. => b
  | _ => []
abbrev sInitNP : Stmt := (clsBody (top 1)).getD 0 (.Pass ⟨0, 0, 0, 0⟩)
section
variable {base : Heap} {K : PySem.W.Frag} {w : World} {P : Program} {mg : Str → Option Value}
abbrev nNP : List Str := ["part", "hand", "number"]
theorem scInitNP : FnScope ["self", "part", "hand", "number"] ["self", "part", "hand", "number"] (defScope sInitNP) := ⟨rfl, rfl, rfl, by decide +kernel, rfl, by decide +kernel, by decide +kernel⟩
/-- what the top says of NoProgram -/
structure NPt (K : PySem.W.Frag) (mg : Str → Option Value) (C fI : Addr) (fd : FuncData) : Prop where
  T : OexC K C
  n1 : PySem.W.findIn K (.ref C) "part" = some none
  n2 : PySem.W.findIn K (.ref C) "hand" = some none
  n3 : PySem.W.findIn K (.ref C) "number" = some none
  iC : PySem.W.findIn K (.ref C) "__init__" = some (some (.ref fI))
  tI : PySem.W.typeIn K (.ref fI) = some (.type "function")
  m : mg "NoProgram" = some (.ref C)
  F : Fun K "__init__" "NoProgram.__init__" sInitNP fI fd
  b : Binds K fd ["self", "part", "hand", "number"] []
theorem np_init {C fI : Addr} {fd : FuncData} (N : NPt K mg C fI fd) : FnOk P w K mg base CX0 1 fI fd ["self", "part", "hand", "number"] (spInit C nNP) := by
  refine N.F.ok scInitNP (fun vs H Q E ⟨a, ws, e, hl, _⟩ => by subst e; exact congrArg (· + 1) hl) fun cdv A outer s H vs Q E hr ⟨a, ws, e, hl, ha, q⟩ => ?_
  subst e
  match ws, hl with
  | [x, y, z], _ =>
  refine ⟨_, pss_cons (ps_ost (pv 0) (pv 1)) (pss_cons (ps_ost (pv 0) (pv 2)) (pss_one (ps_ost (pv 0) (pv 3)))), ?_⟩
  refine ⟨_, rfl, _, rfl, a, C, rfl, N.T, N.n1, .inl ⟨ha, fun dx h1 h2 => ?_⟩⟩
  have e1 : (upd (upd H dx (exd dx [("part", x)])) a (exo a C (some dx))) dx = some (exd dx [("part", x)]) := by rw [upd_ne h2, upd_same]
  refine ⟨_, rfl, _, rfl, a, C, rfl, N.T, N.n2, .inr ⟨dx, _, upd_same, e1, Nat.le_of_ble_eq_true rfl, ?_⟩⟩
  have e2 : (upd (upd (upd H dx (exd dx [("part", x)])) a (exo a C (some dx))) dx (exd dx [("hand", y), ("part", x)])) a = some (exo a C (some dx)) := by rw [upd_ne (Ne.symm h2), upd_same]
  refine ⟨_, rfl, _, rfl, a, C, rfl, N.T, N.n3, .inr ⟨dx, _, e2, upd_same, Nat.le_of_ble_eq_true rfl, ?_⟩⟩
  refine q dx _ h1 h2 ?_ upd_same fun b b1 b2 => ?_
  · rw [upd_ne (Ne.symm h2)]; exact e2
  · rw [upd_ne b2, upd_ne b2, upd_ne b1, upd_ne b2]
/-! ### the looks that raise -/
/-- a fault: its part, hand and number -/
abbrev FaultD : Type := PyData × PyData × PyData
abbrev flD (p h n : PyData) : List (Str × PyData) := [("number", n), ("hand", h), ("part", p)]
/-- C0: the class; fault: none, or what is told -/
def outF (C0 : Addr) (o : Option (PyData × PyData × PyData)) (R : AV → Prop) (RX : Addr → List (Str × PyData) → Prop) : Prop := match o with
  | none => R (.dat .none)
  | some x => RX C0 (flD x.1 x.2.1 x.2.2)
def DnX (P : Program) (w : World) (K : PySem.W.Frag) (mg : Str → Option Value) (base : Heap) (x : Str) (k : Nat) (C : List AV → (AV → Prop) → (Addr → List (Str × PyData) → Prop) → Prop) : Prop := ∃ (f : Addr) (fd : FuncData) (ps : List Str),
  FnOk P w K mg base (L2.CX P w) k f fd ps (spX K C) ∧ mg x = some (.ref f) ∧ PySem.W.keepIn K (.ref f) = true ∧ Binds K fd ps []
theorem dnX {x : Str} {st : Stmt} {N ps : List Str} {k : Nat} {C : List AV → (AV → Prop) → (Addr → List (Str × PyData) → Prop) → Prop} (F : Fn0 K mg x st ps) (S : FnScope N ps (defScope st)) (len : ∀ as R RX, C as R RX → as.length = ps.length)
    (hbody : ∀ (f : Addr) (cdv : Value) (A : Around) (outer : List Env) (s : Shared) (H : Hp) (E : XK) (w0 : Wl) (as : List AV) (R : AV → Prop) (RX : Addr → List (Str × PyData) → Prop), Room k (A.deeper (envOfC x (defScope st) s.heap.objs.size f cdv)) → C as R RX → outS K w0 RX E →
      KSs (cxX P w K mg base N x (defScope st) f cdv A outer s H E) w0 (defBody st) (ss0 N.length as) { nx := fun _ => R (.dat .none), rt := R }) : DnX P w K mg base x (k + 1) C := by
  obtain ⟨f, fd, F, hm, hb⟩ := F
  exact ⟨f, fd, ps, okX F S len (hbody f), hm, F.kp, hb⟩
def dueBoxes : PyData → Option (PyData × PyData × PyData)
  | .list ds => if (decide ((1 : Int) ≤ (ds.length : Int)) && decide ((ds.length : Int) ≤ 4)) = true then (match wbox none 0 ds with | none => none | some n => some (.str "boxes", .none, .int (n : Int))) else some (.str "boxes", .none, .none)
  | _ => some (.str "boxes", .none, .none)
/-- lists that are short, of texts that are short -/
def okB : PyData → Prop
  | .list ds => ∀ d ∈ ds, okL d
  | _ => True
def cLBoxes (C0 : Addr) : List AV → (AV → Prop) → (Addr → List (Str × PyData) → Prop) → Prop := fun as R RX => ∃ d, as = [.dat d] ∧ okB d ∧ outF C0 (dueBoxes d) R RX
abbrev nLBoxes : List Str := ["boxes", "number"]
theorem scLBoxes : FnScope nLBoxes ["boxes"] (defScope sLBoxes) := ⟨rfl, rfl, rfl, by decide +kernel, rfl, by decide +kernel, by decide +kernel⟩
theorem d_lboxes {C0 fI : Addr} {fd : FuncData} (Np : NPt K mg C0 fI fd) (hM : ∃ t, mg "MOST_BOXES" = some (.int 4 t)) (D1 : Dn P w K mg base "is_list" 1 cIsList) (D2 : Dn P w K mg base "_wrong_box" 2 cWrong) (F : Fn0 K mg "_look_at_boxes" sLBoxes ["boxes"]) : DnX P w K mg base "_look_at_boxes" 3 (cLBoxes C0) := by
  refine dnX F scLBoxes (fun as R RX ⟨d, e, _⟩ => by subst e; rfl) fun f cdv A outer s H E w0 as R RX hr hC out => ?_
  obtain ⟨d, rfl, hd, hR⟩ := hC
  obtain ⟨t, hM⟩ := hM
  have I := np_init (P := P) (w := w) (base := base) Np
  show KSs _ _ _ [some (.dat d), none] _
  refine ks_cons (ks_if (kt_not (kt_val (k_cd D1 hr (by decide) rfl (ka_cons (k_var 0 rfl rfl (ka_cons (k_int (ka_cons (k_gl (v := .int 4) rfl hM ⟨_, rfl⟩ (fun _ => .int 4) (ka_nil ⟨rfl, d, 1, 4, rfl, ?_⟩)))))))))))
  have hr2 : Room (1 + 1) _ := hr
  have bad : isListB 1 4 d = false → dueBoxes d = some (.str "boxes", .none, .none) := fun e => by
    cases d with
    | list ds =>
      unfold dueBoxes
      exact if_neg (by rw [show (decide ((1 : Int) ≤ (ds.length : Int)) && decide ((ds.length : Int) ≤ 4)) = false from e]; exact Bool.false_ne_true)
    | _ => rfl
  show iteP (!isListB 1 4 d) _ _
  cases hb : isListB 1 4 d with
  | false =>
    rw [bad hb] at hR
    exact ks_one (Kp.ks_raise (ns := nNP) rfl (takes_of rfl rfl rfl rfl) Np.T Np.iC Np.tI I hr2 Np.b rfl Np.m out (ka_cons (k_str (ka_cons (k_non (ka_cons (k_non (ka_nil ⟨rfl, Nat.le_of_ble_eq_true rfl, hR⟩)))))))) 
  | true =>
    cases d with
    | list ds =>
      have hb' : (decide ((1 : Int) ≤ (ds.length : Int)) && decide ((ds.length : Int) ≤ 4)) = true := hb
      have hR : outF C0 (match wbox none 0 ds with | none => none | some n => some (.str "boxes", .none, .int (n : Int))) R RX := by
        have e : dueBoxes (.list ds) = (match wbox none 0 ds with | none => none | some n => some (.str "boxes", .none, .int (n : Int))) := by
          unfold dueBoxes
          exact if_pos hb'
        rw [e] at hR
        exact hR
      have hz : ds.length ≤ 1000 := by
        simp only [Bool.and_eq_true, decide_eq_true_eq] at hb'
        omega
      refine ks_nil (ks_cons (ks_set 1 scLBoxes.nd rfl (.inl rfl) (k_cd D2 hr (by decide) rfl (ka_cons (k_var 0 rfl rfl (ka_nil ⟨rfl, ds, rfl, hz, hd, ?_⟩))))))
      show KSs _ _ _ [some (.dat (.list ds)), some (.dat (numV (wbox none 0 ds)))] _
      cases hw : wbox none 0 ds with
      | none =>
        rw [hw] at hR
        exact ks_one (ks_if (kt_cm dc_isnt (k_var 1 rfl rfl (k_non (ks_nil hR)))))
      | some n =>
        rw [hw] at hR
        exact ks_one (ks_if (kt_cm dc_isnt (k_var 1 rfl rfl (k_non (ks_one (Kp.ks_raise (ns := nNP) rfl (takes_of rfl rfl rfl rfl) Np.T Np.iC Np.tI I hr2 Np.b rfl Np.m out (ka_cons (k_str (ka_cons (k_non (ka_cons (k_var 1 rfl rfl (ka_nil ⟨rfl, Nat.le_of_ble_eq_true rfl, hR⟩)))))))))))))
    | _ => cases hb
end
end K61

namespace K61
open PySem PySem.Spec PyProof.Rows L2 Kp
section
variable {base : Heap} {K : PySem.W.Frag} {w : World} {P : Program} {mg : Str → Option Value}
/-- the first hand that is no list of at most eight -/
def whand : Nat → List PyData → Option Nat
  | _, [] => none
  | i, d :: ds => if isListB 0 8 d = true then whand (i + 1) ds else some i
def dueHands : PyData → Option (PyData × PyData × PyData)
  | .list ds => if (decide ((1 : Int) ≤ (ds.length : Int)) && decide ((ds.length : Int) ≤ 4)) = true then (match whand 0 ds with | none => none | some n => some (.str "hands", .int (n : Int), .none)) else some (.str "hands", .none, .none)
  | _ => some (.str "hands", .none, .none)
def cLHands (C0 : Addr) : List AV → (AV → Prop) → (Addr → List (Str × PyData) → Prop) → Prop := fun as R RX => ∃ d, as = [.dat d] ∧ outF C0 (dueHands d) R RX
abbrev nLHands : List Str := ["hands", "number", "hand"]
theorem scLHands : FnScope nLHands ["hands"] (defScope sLHands) := ⟨rfl, rfl, rfl, by decide +kernel, rfl, by decide +kernel, by decide +kernel⟩
theorem d_lhands {C0 fI : Addr} {fd : FuncData} (Np : NPt K mg C0 fI fd) (he : mg "enumerate" = none) (hM : ∃ t, mg "MOST_HANDS" = some (.int 4 t)) (hM8 : ∃ t, mg "HAND_DEEDS" = some (.int 8 t)) (D1 : Dn P w K mg base "is_list" 1 cIsList) (F : Fn0 K mg "_look_at_hands" sLHands ["hands"]) : DnX P w K mg base "_look_at_hands" 3 (cLHands C0) := by
  refine dnX F scLHands (fun as R RX ⟨d, e, _⟩ => by subst e; rfl) fun f cdv A outer s H E w0 as R RX hr hC out => ?_
  obtain ⟨d, rfl, hR⟩ := hC
  obtain ⟨t, hM⟩ := hM
  obtain ⟨t8, hM8⟩ := hM8
  have I := np_init (P := P) (w := w) (base := base) Np
  show KSs _ _ _ [some (.dat d), none, none] _
  refine ks_cons (ks_if (kt_not (kt_val (k_cd D1 hr (by decide) rfl (ka_cons (k_var 0 rfl rfl (ka_cons (k_int (ka_cons (k_gl (v := .int 4) rfl hM ⟨_, rfl⟩ (fun _ => .int 4) (ka_nil ⟨rfl, d, 1, 4, rfl, ?_⟩)))))))))))
  have hr2 : Room (1 + 1) _ := hr
  have bad : isListB 1 4 d = false → dueHands d = some (.str "hands", .none, .none) := fun e => by
    cases d with
    | list ds =>
      unfold dueHands
      exact if_neg (by rw [show (decide ((1 : Int) ≤ (ds.length : Int)) && decide ((ds.length : Int) ≤ 4)) = false from e]; exact Bool.false_ne_true)
    | _ => rfl
  show iteP (!isListB 1 4 d) _ _
  cases hb : isListB 1 4 d with
  | false =>
    rw [bad hb] at hR
    exact ks_one (Kp.ks_raise (ns := nNP) rfl (takes_of rfl rfl rfl rfl) Np.T Np.iC Np.tI I hr2 Np.b rfl Np.m out (ka_cons (k_str (ka_cons (k_non (ka_cons (k_non (ka_nil ⟨rfl, Nat.le_of_ble_eq_true rfl, hR⟩))))))))
  | true =>
    cases d with
    | list ds =>
      have hb' : (decide ((1 : Int) ≤ (ds.length : Int)) && decide ((ds.length : Int) ≤ 4)) = true := hb
      have hR : outF C0 (match whand 0 ds with | none => none | some n => some (.str "hands", .int (n : Int), .none)) R RX := by
        have e : dueHands (.list ds) = (match whand 0 ds with | none => none | some n => some (.str "hands", .int (n : Int), .none)) := by
          unfold dueHands
          exact if_pos hb'
        rw [e] at hR
        exact hR
      refine ks_nil (ks_one (ks_for (g := gTup K 2 (gCons (gName 1) (gCons (gName 2) gNil))) (passes_of rfl) rfl (tgok2 1 2 (by decide)) (pg_tup rfl (pgs_cons (pg_name (i := 1) scLHands.nd rfl (Or.inl rfl)) (pgs_cons (pg_name (i := 2) scLHands.nd rfl (Or.inl rfl)) pgs_nil))) (ki_enum rfl he (k_var 0 rfl rfl ?_))))
      refine ⟨fun i ss' => ∃ o1 o2 : Option AV, ss' = [some (.dat (.list ds)), o1, o2] ∧ whand i (ds.drop i) = whand 0 ds, ⟨_, _, rfl, rfl⟩, fun i d hs hd hI => ?_, fun hs hI => ?_⟩
      · obtain ⟨o1, o2, rfl, hw⟩ := hI
        obtain ⟨x, hx, rfl⟩ := enumD_at hd
        have hi : i < ds.length := (List.getElem?_eq_some_iff.mp hx).1
        have hdr : ds.drop i = x :: ds.drop (i + 1) := by
          rw [List.drop_eq_getElem_cons hi]
          have : ds[i] = x := by
            have q := List.getElem?_eq_getElem hi
            rw [q] at hx
            exact Option.some.inj hx
          rw [this]
        rw [hdr] at hw
        have hw : (if isListB 0 8 x = true then whand (i + 1) (ds.drop (i + 1)) else some i) = whand 0 ds := hw
        show KSs _ _ _ [some (.dat (.list ds)), some (.dat (.int (i : Int))), some (.dat x)] _
        refine ks_one (ks_if (kt_not (kt_val (k_cd D1 hr (by decide) rfl (ka_cons (k_var 2 rfl rfl (ka_cons (k_int (ka_cons (k_gl (v := .int 8) rfl hM8 ⟨_, rfl⟩ (fun _ => .int 8) (ka_nil ⟨rfl, x, 0, 8, rfl, ?_⟩)))))))))))
        show iteP (!isListB 0 8 x) _ _
        cases hb2 : isListB 0 8 x with
        | false =>
          rw [hb2, if_neg Bool.false_ne_true] at hw
          rw [← hw] at hR
          exact ks_one (Kp.ks_raise (ns := nNP) rfl (takes_of rfl rfl rfl rfl) Np.T Np.iC Np.tI I hr2 Np.b rfl Np.m out (ka_cons (k_str (ka_cons (k_var 1 rfl rfl (ka_cons (k_non (ka_nil ⟨rfl, Nat.le_of_ble_eq_true rfl, hR⟩))))))))
        | true =>
          rw [hb2, if_pos rfl] at hw
          exact ks_nil ⟨_, _, rfl, hw⟩
      · obtain ⟨o1, o2, rfl, hw⟩ := hI
        rw [enumD_len, List.drop_length] at hw
        have e : whand 0 ds = none := by rw [← hw]; rfl
        rw [e] at hR
        exact hR
    | _ => cases hb
end
end K61

namespace K61
open PySem PySem.Spec PyProof.Rows L2 Kp
section
variable {X : Cx} {w0 : Wl} {ss : SS}
abbrev sumS : List AV → (AV → Prop) → Prop
  | [.dat (.list ds)], R => ∃ ns : List Int, ds = ns.map .int ∧ R (.dat (.int ns.sum))
  | _, _ => False
theorem dl_sum (hc : X.calm = true) : DCl X (.builtin "sum") sumS := ⟨_, cr_sum hc, fun xs R hy vs w Q av q => by
  unfold sumS at hy
  split at hy
  · obtain ⟨v, rfl, hv⟩ := av.one
    obtain ⟨ns, rfl, hr⟩ := hy
    cases hv with
    | lst h1 d1 =>
      rw [d1.ints] at h1
      exact ⟨_, ns, rfl, .inl (.inl (w.sub _ _ h1)), go q (.int _) hr⟩
  · exact hy.elim⟩
theorem ks_asg {tg e : Expr} {g : TG} {T : PyData → SS → (SS → Prop) → Prop} {vs : List Nat} {N : AN} {pos : Pos} (hT : TgOk X.K w0 g T vs) (hg : PG X tg g) (h : KE X w0 e ss fun a => onDat a fun d => T d ss N.nx)
    (h1 : swapsWithSole [tg] e pos.line X.env = pure false := by rfl) (h2 : swappedStores [tg] e X.env = pure none := by rfl) (h3 : (assignEach [tg] X.env).map (·.2) = [assign tg X.env] := by rfl) : KS X w0 (.Assign [tg] e pos) ss N :=
  PS.imp (ps_asg h hg h1 h2 h3) fun D σ H ⟨w, ew, hs, d⟩ => ⟨w, ew, hs, fun v a w1 l1 hv hk => by
    obtain ⟨x, rfl, hx⟩ := hk.of
    exact hT.go v x w1 σ ss N.nx D.nx hv (hs.mono l1) hx fun σ' ss' hs' _ hn => d.nx σ' ss' w1 l1.g hs' hn⟩
end
theorem b_sum : bootBuiltins "sum" = some (.builtin "sum") := by decide +kernel
def wd (bs : List Str) : Nat → List PyData → Option Nat
  | _, [] => none
  | j, d :: ds => if deedB bs d = true then wd bs (j + 1) ds else some j
def wds (bs : List Str) : Nat → List (List PyData) → Option (Nat × Nat)
  | _, [] => none
  | i, h :: hs => match wd bs 0 h with
    | some j => some (i, j)
    | none => wds bs (i + 1) hs
def dueDeeds (bs : List Str) (hs : List (List PyData)) : Option (PyData × PyData × PyData) := match wds bs 0 hs with
  | some x => some (.str "deeds", .int (x.1 : Int), .int (x.2 : Int))
  | none => if decide ((16 : Int) < ((hs.map fun h => (h.length : Int)).sum)) = true then some (.str "deeds", .none, .none) else none
def cLDeeds (C0 : Addr) : List AV → (AV → Prop) → (Addr → List (Str × PyData) → Prop) → Prop := fun as R RX => ∃ (bs : List Str) (hs : List (List PyData)), as = [.dat (.list (bs.map .str)), .dat (.list (hs.map .list))] ∧ hs.length ≤ 1000 ∧ (∀ h ∈ hs, ∀ d ∈ h, okT d) ∧ outF C0 (dueDeeds bs hs) R RX
theorem drop_at {α : Type} {l : List α} {i : Nat} {x : α} (h : l[i]? = some x) : l.drop i = x :: l.drop (i + 1) := by
  have hi : i < l.length := (List.getElem?_eq_some_iff.mp h).1
  rw [List.drop_eq_getElem_cons hi]
  have q := List.getElem?_eq_getElem hi
  rw [q] at h
  rw [Option.some.inj h]
section
variable {base : Heap} {K : PySem.W.Frag} {w : World} {P : Program} {mg : Str → Option Value}
abbrev nLDeeds : List Str := ["boxes", "hands", "hand", "deeds", "number", "deed"]
theorem scLDeeds : FnScope nLDeeds ["boxes", "hands"] (defScope sLDeeds) := ⟨rfl, rfl, rfl, by decide +kernel, rfl, by decide +kernel, by decide +kernel⟩
theorem d_ldeeds {C0 fI : Addr} {fd : FuncData} (B : Blt mg) (Np : NPt K mg C0 fI fd) (he : mg "enumerate" = none) (hsum : mg "sum" = none) (hM : ∃ t, mg "MOST_DEEDS" = some (.int 16 t)) (D1 : Dn P w K mg base "is_deed" 5 cDeed) (F : Fn0 K mg "_look_at_deeds" sLDeeds ["boxes", "hands"]) : DnX P w K mg base "_look_at_deeds" 6 (cLDeeds C0) := by
  refine dnX F scLDeeds (fun as R RX ⟨bs, hs, e, _⟩ => by subst e; rfl) fun f cdv A outer s H E w0 as R RX hr hC out => ?_
  obtain ⟨bs, hs, rfl, hl, hok, hR⟩ := hC
  obtain ⟨t, hM⟩ := hM
  have I := np_init (P := P) (w := w) (base := base) Np
  have hr2 : Room (1 + 1) _ := hr.mono (by decide)
  show KSs _ _ _ [some (.dat (.list (bs.map .str))), some (.dat (.list (hs.map .list))), none, none, none, none] _
  refine ks_cons (ks_for (g := gTup K 2 (gCons (gName 2) (gCons (gName 3) gNil))) (passes_of rfl) rfl (tgok2 2 3 (by decide)) (pg_tup rfl (pgs_cons (pg_name (i := 2) scLDeeds.nd rfl (Or.inl rfl)) (pgs_cons (pg_name (i := 3) scLDeeds.nd rfl (Or.inl rfl)) pgs_nil))) (ki_enum rfl he (k_var 1 rfl rfl ?_)))
  refine ⟨fun i ss' => ∃ o2 o3 o4 o5 : Option AV, ss' = [some (.dat (.list (bs.map .str))), some (.dat (.list (hs.map .list))), o2, o3, o4, o5] ∧ wds bs i (hs.drop i) = wds bs 0 hs, ⟨_, _, _, _, rfl, rfl⟩, fun i d ss' hd hI => ?_, fun ss' hI => ?_⟩
  · obtain ⟨o2, o3, o4, o5, rfl, hw⟩ := hI
    obtain ⟨x, hx, rfl⟩ := enumD_at hd
    obtain ⟨h, hh, rfl⟩ : ∃ h, hs[i]? = some h ∧ x = .list h := by
      rw [List.getElem?_map] at hx
      cases q : hs[i]? with
      | none => rw [q] at hx; cases hx
      | some h => rw [q] at hx; exact ⟨h, rfl, (Option.some.inj hx).symm⟩
    rw [drop_at hh] at hw
    have hw : (match wd bs 0 h with | some j => some (i, j) | none => wds bs (i + 1) (hs.drop (i + 1))) = wds bs 0 hs := hw
    have hhm : h ∈ hs := List.mem_of_getElem? hh
    show KSs _ _ _ [some (.dat (.list (bs.map .str))), some (.dat (.list (hs.map .list))), some (.dat (.int (i : Int))), some (.dat (.list h)), o4, o5] _
    refine ks_one (ks_for (g := gTup K 2 (gCons (gName 4) (gCons (gName 5) gNil))) (passes_of rfl) rfl (tgok2 4 5 (by decide)) (pg_tup rfl (pgs_cons (pg_name (i := 4) scLDeeds.nd rfl (Or.inl rfl)) (pgs_cons (pg_name (i := 5) scLDeeds.nd rfl (Or.inl rfl)) pgs_nil))) (ki_enum rfl he (k_var 3 rfl rfl ?_)))
    refine ⟨fun j ss' => ∃ o4 o5 : Option AV, ss' = [some (.dat (.list (bs.map .str))), some (.dat (.list (hs.map .list))), some (.dat (.int (i : Int))), some (.dat (.list h)), o4, o5] ∧ wd bs j (h.drop j) = wd bs 0 h, ⟨_, _, rfl, rfl⟩, fun j d ss' hd hJ => ?_, fun ss' hJ => ?_⟩
    · obtain ⟨o4, o5, rfl, hv⟩ := hJ
      obtain ⟨x, hx, rfl⟩ := enumD_at hd
      rw [drop_at hx] at hv
      have hv : (if deedB bs x = true then wd bs (j + 1) (h.drop (j + 1)) else some j) = wd bs 0 h := hv
      have hxm : x ∈ h := List.mem_of_getElem? hx
      show KSs _ _ _ [some (.dat (.list (bs.map .str))), some (.dat (.list (hs.map .list))), some (.dat (.int (i : Int))), some (.dat (.list h)), some (.dat (.int (j : Int))), some (.dat x)] _
      refine ks_one (ks_if (kt_not (kt_val (k_cd D1 hr (by decide) rfl (ka_cons (k_var 0 rfl rfl (ka_cons (k_var 5 rfl rfl (ka_nil ⟨rfl, bs, x, rfl, hok h hhm x hxm, ?_⟩)))))))))
      show iteP (!deedB bs x) _ _
      cases hb : deedB bs x with
      | false =>
        rw [hb, if_neg Bool.false_ne_true] at hv
        rw [← hv] at hw
        have hR : RX C0 (flD (.str "deeds") (.int (i : Int)) (.int (j : Int))) := by
          have e : dueDeeds bs hs = some (.str "deeds", .int (i : Int), .int (j : Int)) := by
            unfold dueDeeds
            rw [← hw]
          rw [e] at hR
          exact hR
        exact ks_one (Kp.ks_raise (ns := nNP) rfl (takes_of rfl rfl rfl rfl) Np.T Np.iC Np.tI I hr2 Np.b rfl Np.m out (ka_cons (k_str (ka_cons (k_var 2 rfl rfl (ka_cons (k_var 4 rfl rfl (ka_nil ⟨rfl, Nat.le_of_ble_eq_true rfl, hR⟩))))))))
      | true =>
        rw [hb, if_pos rfl] at hv
        exact ks_nil ⟨_, _, rfl, hv⟩
    · obtain ⟨o4, o5, rfl, hv⟩ := hJ
      rw [enumD_len, List.drop_length] at hv
      have e : wd bs 0 h = none := by rw [← hv]; rfl
      rw [e] at hw
      exact ⟨_, _, _, _, rfl, hw⟩
  · obtain ⟨o2, o3, o4, o5, rfl, hw⟩ := hI
    rw [enumD_len, List.length_map, List.drop_length] at hw
    have hw0 : wds bs 0 hs = none := by rw [← hw]; rfl
    have hR : outF C0 (if decide ((16 : Int) < ((hs.map fun h => (h.length : Int)).sum)) = true then some (.str "deeds", .none, .none) else none) R RX := by
      have e : dueDeeds bs hs = (if decide ((16 : Int) < ((hs.map fun h => (h.length : Int)).sum)) = true then some (.str "deeds", .none, .none) else none) := by
        unfold dueDeeds
        rw [hw0]
      rw [e] at hR
      exact hR
    refine ks_one (ks_if (kt_cm dc_gt (k_cB (dl_sum rfl) rfl hsum b_sum (ka_cons (k_ofN ?_)))))
    refine kn_lc (own := [("deeds", 3)]) (g := gName 3) rfl scLDeeds.nd (blkOk_by (N := nLDeeds) (sc := defScope sLDeeds) (by decide +kernel)) (tgok1 3) (fun _ _ _ _ _ => pg_name (i := 3) scLDeeds.nd rfl (Or.inl rfl))
      (ki_list (k_var 1 rfl rfl ⟨by rw [List.length_map]; omega, fun j es => es = (((hs.take j).map fun h => (h.length : Int)).map .int), rfl, fun j d2 acc hd2 hp => ?_, fun es he => ?_⟩))
    · rw [List.getElem?_map] at hd2
      cases q : hs[j]? with
      | none => rw [q] at hd2; cases hd2
      | some h =>
        rw [q] at hd2
        have hd2 := Option.some.inj hd2
        subst hd2
        subst hp
        refine fun _ _ _ _ _ => k_cB dl_len rfl B.len b_len (ka_cons (k_var 3 rfl rfl (ka_nil ?_)))
        show _ = _
        rw [List.take_add_one, q]
        simp
    · rw [List.length_map, List.take_length] at he
      refine ka_nil ⟨_, he, k_gl (v := .int 16) rfl hM ⟨_, rfl⟩ (fun _ => .int 16) ?_⟩
      show iteP (decide ((16 : Int) < ((hs.map fun h => (h.length : Int)).sum))) _ _
      cases hd : decide ((16 : Int) < ((hs.map fun h => (h.length : Int)).sum)) with
      | true =>
        rw [hd, if_pos rfl] at hR
        exact ks_one (Kp.ks_raise (ns := nNP) rfl (takes_of rfl rfl rfl rfl) Np.T Np.iC Np.tI I hr2 Np.b rfl Np.m out (ka_cons (k_str (ka_cons (k_non (ka_cons (k_non (ka_nil ⟨rfl, Nat.le_of_ble_eq_true rfl, hR⟩))))))))
      | false =>
        rw [hd, if_neg Bool.false_ne_true] at hR
        exact ks_nil hR
end
end K61

namespace K61
open PySem PySem.Spec PyProof.Rows L2 Kp
section
variable {X : Cx} {w0 : Wl} {ss : SS}
theorem ks_ex {e : Expr} {pos : Pos} {N : AN} (h : KE X w0 e ss fun _ => N.nx ss) (hsw : swapsWith e none pos.line X.env = pure false := by rfl) : KS X w0 (.Expr e pos) ss N :=
  PS.imp (ps_expr h hsw) fun D σ H ⟨w, ew, hs, d⟩ => ⟨w, ew, hs, fun v a w1 l1 hv hk => d.nx σ ss w1 l1.g (hs.mono l1) hk⟩
theorem k_cdx {C : List AV → (AV → Prop) → (Addr → List (Str × PyData) → Prop) → Prop} {j k : Nat} {x : Str} {p pos : Pos} {e : Expr} {es : List Expr} {R : AV → Prop} {RX : Addr → List (Str × PyData) → Prop} {E : XK} (D : DnX X.prog X.w X.K X.mg X.base x k C) (hr : Room j X.A) (hk : k ≤ j) (hg : Gl X x) (tk : Takes X fun cls d _ H => E cls d H) (out : outS X.K w0 RX E)
    (h : KA X w0 (e :: es) ss fun as => as.all AV.plain = true ∧ C as R RX) (hdb : (x == ("__debug__" : Str)) = false := by decide) (he : starEach (e :: es) X.env = (false, eval e X.env) :: starEach es X.env := by rfl) (hpl : (backTo pos (starEach es X.env)).any (·.1) = false := by rfl) :
    KE X w0 (.Call (.Name x p) (e :: es) [] pos) ss R := by
  obtain ⟨f, fd, ps, F, hm, hkp, hb⟩ := D
  exact k_callX F (hr.mono hk) hg hm hkp hb tk out h hdb he hpl
end
def strD : PyData → Option Str
  | .str z => some z
  | _ => none
def lstD : PyData → Option (List PyData)
  | .list l => some l
  | _ => none
def strsOf : PyData → List Str
  | .list ds => ds.filterMap strD
  | _ => []
def listsOf : PyData → List (List PyData)
  | .list ds => ds.filterMap lstD
  | _ => []
theorem wbox_none : ∀ {ds : List PyData} {p : Option Str} {i : Nat}, wbox p i ds = none → ds = (ds.filterMap strD).map .str
  | [], _, _, _ => rfl
  | .str z :: ds, p, i, h => by
    have h : (if (nameB (.str z) && riseB p z) = true then wbox (some z) (i + 1) ds else some i) = none := h
    by_cases q : (nameB (.str z) && riseB p z) = true
    · rw [if_pos q] at h
      have ih := wbox_none h
      show PyData.str z :: ds = .str z :: ((ds.filterMap strD).map .str)
      rw [← ih]
    · rw [if_neg q] at h
      cases h
  | .none :: _, _, _, h => by cases h
  | .bool _ :: _, _, _, h => by cases h
  | .int _ :: _, _, _, h => by cases h
  | .list _ :: _, _, _, h => by cases h
  | .tuple _ :: _, _, _, h => by cases h
  | .dict _ :: _, _, _, h => by cases h
theorem whand_none : ∀ {ds : List PyData} {i : Nat}, whand i ds = none → ds = (ds.filterMap lstD).map .list
  | [], _, _ => rfl
  | d :: ds, i, h => by
    have h : (if isListB 0 8 d = true then whand (i + 1) ds else some i) = none := h
    by_cases q : isListB 0 8 d = true
    · rw [if_pos q] at h
      have ih := whand_none h
      cases d with
      | list l =>
        show PyData.list l :: ds = .list l :: ((ds.filterMap lstD).map .list)
        rw [← ih]
      | _ => cases q
    · rw [if_neg q] at h
      cases h
theorem boxes_none {d : PyData} (h : dueBoxes d = none) : ∃ ds, d = .list ds ∧ ds = (ds.filterMap strD).map .str := by
  cases d with
  | list ds =>
    refine ⟨ds, rfl, ?_⟩
    have h : (if (decide ((1 : Int) ≤ (ds.length : Int)) && decide ((ds.length : Int) ≤ 4)) = true then (match wbox none 0 ds with | none => none | some n => some (PyData.str "boxes", PyData.none, PyData.int (n : Int))) else some (PyData.str "boxes", PyData.none, PyData.none)) = none := h
    by_cases g : (decide ((1 : Int) ≤ (ds.length : Int)) && decide ((ds.length : Int) ≤ 4)) = true
    · rw [if_pos g] at h
      cases q : wbox none 0 ds with
      | none => exact wbox_none q
      | some n => rw [q] at h; cases h
    · rw [if_neg g] at h
      cases h
  | _ => cases h
theorem hands_none {d : PyData} (h : dueHands d = none) : ∃ ds, d = .list ds ∧ ds.length ≤ 4 ∧ ds = (ds.filterMap lstD).map .list := by
  cases d with
  | list ds =>
    have h : (if (decide ((1 : Int) ≤ (ds.length : Int)) && decide ((ds.length : Int) ≤ 4)) = true then (match whand 0 ds with | none => none | some n => some (PyData.str "hands", PyData.int (n : Int), PyData.none)) else some (PyData.str "hands", PyData.none, PyData.none)) = none := h
    by_cases g : (decide ((1 : Int) ≤ (ds.length : Int)) && decide ((ds.length : Int) ≤ 4)) = true
    · rw [if_pos g] at h
      rw [Bool.and_eq_true, decide_eq_true_eq, decide_eq_true_eq] at g
      cases q : whand 0 ds with
      | none => exact ⟨ds, rfl, by omega, whand_none q⟩
      | some n => rw [q] at h; cases h
    · rw [if_neg g] at h
      cases h
  | _ => cases h
/-- what is told of a thing: none of a program, else its first fault -/
def dueLook : PyData → Option (PyData × PyData × PyData)
  | .tuple [b, h] => match dueBoxes b with
    | some x => some x
    | none => match dueHands h with
      | some x => some x
      | none => dueDeeds (strsOf b) (listsOf h)
  | _ => some (.str "program", .none, .none)
def okP : PyData → Prop
  | .tuple [b, h] => okB b ∧ ∀ l ∈ listsOf h, ∀ x ∈ l, okT x
  | _ => True
def cLook (C0 : Addr) : List AV → (AV → Prop) → (Addr → List (Str × PyData) → Prop) → Prop := fun as R RX => ∃ d, as = [.dat d] ∧ okP d ∧ outF C0 (dueLook d) R RX
section
variable {base : Heap} {K : PySem.W.Frag} {w : World} {P : Program} {mg : Str → Option Value}
abbrev nLook : List Str := ["thing", "boxes", "hands"]
theorem scLook : FnScope nLook ["thing"] (defScope sLookAt) := ⟨rfl, rfl, rfl, by decide +kernel, rfl, by decide +kernel, by decide +kernel⟩
theorem d_look {C0 fI : Addr} {fd : FuncData} (B : Blt mg) (Np : NPt K mg C0 fI fd) (D1 : DnX P w K mg base "_look_at_boxes" 3 (cLBoxes C0)) (D2 : DnX P w K mg base "_look_at_hands" 3 (cLHands C0)) (D3 : DnX P w K mg base "_look_at_deeds" 6 (cLDeeds C0)) (F : Fn0 K mg "look_at" sLookAt ["thing"]) : DnX P w K mg base "look_at" 7 (cLook C0) := by
  refine dnX F scLook (fun as R RX ⟨d, e, _⟩ => by subst e; rfl) fun f cdv A outer s H E w0 as R RX hr hC out => ?_
  obtain ⟨d, rfl, hok, hR⟩ := hC
  have I := np_init (P := P) (w := w) (base := base) Np
  have hr2 : Room (1 + 1) _ := hr.mono (by decide)
  show KSs _ _ _ [some (.dat d), none, none] _
  refine ks_cons (ks_if (kt_w (kw_or (kt_not (kt_val (k_isi rfl B.isi rfl B.tup b_tup (k_var 0 rfl rfl ⟨_, kit_tup d, ?_⟩)))))))
  cases d with
  | tuple ds =>
    refine kw_or1 (kt_cm dc_sne (k_cB dl_len rfl B.len b_len (ka_cons (k_var 0 rfl rfl (ka_nil (k_int (iteN (fun h2 => ?_) (fun h2 => ?_))))))))
    · have hR : RX C0 (flD (.str "program") .none .none) := by
        have e : dueLook (.tuple ds) = some (.str "program", .none, .none) := by
          unfold dueLook
          split
          · rename_i b h z
            cases z
            exact absurd rfl h2
          · rfl
        rw [e] at hR
        exact hR
      exact ks_one (Kp.ks_raise (ns := nNP) rfl (takes_of rfl rfl rfl rfl) Np.T Np.iC Np.tI I hr2 Np.b rfl Np.m out (ka_cons (k_str (ka_cons (k_non (ka_cons (k_non (ka_nil ⟨rfl, Nat.le_of_ble_eq_true rfl, hR⟩))))))))
    · match ds, h2 with
      | [b, h], _ =>
      obtain ⟨hb, hh⟩ := hok
      have hR : outF C0 (match dueBoxes b with | some x => some x | none => match dueHands h with | some x => some x | none => dueDeeds (strsOf b) (listsOf h)) R RX := hR
      refine ks_nil (ks_cons (ks_asg (g := gTup K 2 (gCons (gName 1) (gCons (gName 2) gNil))) (tgok2 1 2 (by decide)) (pg_tup rfl (pgs_cons (pg_name (i := 1) scLook.nd rfl (Or.inl rfl)) (pgs_cons (pg_name (i := 2) scLook.nd rfl (Or.inl rfl)) pgs_nil))) (k_var 0 rfl rfl ?_)))
      show KSs _ _ _ [some (.dat (.tuple [b, h])), some (.dat b), some (.dat h)] _
      refine ks_cons (ks_ex (k_cdx D1 hr (by decide) rfl (takes_of rfl rfl rfl rfl) out (ka_cons (k_var 1 rfl rfl (ka_nil ⟨rfl, b, rfl, hb, ?_⟩)))))
      cases e1 : dueBoxes b with
      | some x =>
        rw [e1] at hR
        exact hR
      | none =>
        rw [e1] at hR
        have hR : outF C0 (match dueHands h with | some x => some x | none => dueDeeds (strsOf b) (listsOf h)) R RX := hR
        refine ks_cons (ks_ex (k_cdx D2 hr (by decide) rfl (takes_of rfl rfl rfl rfl) out (ka_cons (k_var 2 rfl rfl (ka_nil ⟨rfl, h, rfl, ?_⟩)))))
        cases e2 : dueHands h with
        | some x =>
          rw [e2] at hR
          exact hR
        | none =>
          rw [e2] at hR
          have hR : outF C0 (dueDeeds (strsOf b) (listsOf h)) R RX := hR
          obtain ⟨bs, rfl, eb⟩ := boxes_none e1
          obtain ⟨hs, rfl, el, eh⟩ := hands_none e2
          have eb2 : (PyData.list bs) = .list ((strsOf (.list bs)).map .str) := congrArg PyData.list eb
          have eh2 : (PyData.list hs) = .list ((listsOf (.list hs)).map .list) := congrArg PyData.list eh
          have el2 : (listsOf (.list hs)).length ≤ 1000 := by
            have q := congrArg List.length eh
            rw [List.length_map] at q
            show (hs.filterMap lstD).length ≤ 1000
            omega
          refine ks_one (ks_ex (k_cdx D3 hr (by decide) rfl (takes_of rfl rfl rfl rfl) out (ka_cons (k_var 1 rfl rfl (ka_cons (k_var 2 rfl rfl (ka_nil ⟨rfl, strsOf (.list bs), listsOf (.list hs), by rw [← eb2, ← eh2], el2, hh, ?_⟩)))))))
          cases e3 : dueDeeds (strsOf (.list bs)) (listsOf (.list hs)) with
          | some x =>
            rw [e3] at hR
            exact hR
          | none =>
            rw [e3] at hR
            exact hR
  | _ => exact ks_one (Kp.ks_raise (ns := nNP) rfl (takes_of rfl rfl rfl rfl) Np.T Np.iC Np.tI I hr2 Np.b rfl Np.m out (ka_cons (k_str (ka_cons (k_non (ka_cons (k_non (ka_nil ⟨rfl, Nat.le_of_ble_eq_true rfl, hR⟩))))))))
end
end K61


namespace K61
open PySem PySem.Spec PyProof.Rows L2 Kp
theorem menu_rise : ∀ p ∈ bMenu, ∀ z ∈ bMenu, p ≠ z → ltCps z.cps.toList p.cps.toList = false → lessB p z = true := by
  have h : (bMenu.all fun p => bMenu.all fun z => decide (p = z) || (ltCps z.cps.toList p.cps.toList || lessB p z)) = true := by decide +kernel
  intro p hp z hz hne hnl
  have q := List.all_eq_true.mp (List.all_eq_true.mp h p hp) z hz
  rw [decide_eq_false hne, hnl] at q
  exact q
theorem menu_nodup : bMenu.Nodup := by decide +kernel
theorem wbox_menu : ∀ (bs : List Str) (p : Str) (i : Nat), (∀ z ∈ p :: bs, z ∈ bMenu) → (p :: bs).Nodup → risingS p bs = true → wbox (some p) i (bs.map .str) = none
  | [], _, _, _, _, _ => rfl
  | z :: bs, p, i, hm, hn, hr => by
    have hr : (!ltCps z.cps.toList p.cps.toList && risingS z bs) = true := hr
    rw [Bool.and_eq_true, Bool.not_eq_true'] at hr
    obtain ⟨n1, n2⟩ := List.nodup_cons.mp hn
    have hz : z ∈ bMenu := hm z (List.mem_cons_of_mem _ List.mem_cons_self)
    have e1 : nameB (.str z) = true := (bMenu_ok z hz).1
    have e2 : riseB (some p) z = true := menu_rise p (hm p List.mem_cons_self) z hz (fun e => n1 (by rw [e]; exact List.mem_cons_self)) hr.1
    show (if (nameB (.str z) && riseB (some p) z) = true then wbox (some z) (i + 1) (bs.map .str) else some i) = none
    rw [e1, e2, Bool.and_self, if_pos rfl]
    exact wbox_menu bs z (i + 1) (fun x hx => hm x (List.mem_cons_of_mem _ hx)) n2 hr.2
theorem wd_all {bs : List Str} : ∀ (ds : List PyData) (j : Nat), (∀ d ∈ ds, deedB bs d = true) → wd bs j ds = none
  | [], _, _ => rfl
  | d :: ds, j, h => by
    show (if deedB bs d = true then wd bs (j + 1) ds else some j) = none
    rw [if_pos (h d List.mem_cons_self)]
    exact wd_all ds (j + 1) fun x hx => h x (List.mem_cons_of_mem _ hx)
theorem wds_all {bs : List Str} : ∀ (hs : List (List PyData)) (i : Nat), (∀ h ∈ hs, ∀ d ∈ h, deedB bs d = true) → wds bs i hs = none
  | [], _, _ => rfl
  | x :: hs, i, h => by
    show (match wd bs 0 x with | some j => some (i, j) | none => wds bs (i + 1) hs) = none
    rw [wd_all x 0 (h x List.mem_cons_self)]
    exact wds_all hs (i + 1) fun y hy => h y (List.mem_cons_of_mem _ hy)
theorem whand_few : ∀ (hs : List (List PyData)) (i : Nat), (∀ h ∈ hs, h.length ≤ 8) → whand i (hs.map .list) = none
  | [], _, _ => rfl
  | x :: hs, i, h => by
    have q : isListB 0 8 (.list x) = true := by
      have := h x List.mem_cons_self
      show (decide ((0 : Int) ≤ (x.length : Int)) && decide ((x.length : Int) ≤ 8)) = true
      rw [decide_eq_true (by omega), decide_eq_true (by omega)]
      rfl
    show (if isListB 0 8 (.list x) = true then whand (i + 1) (hs.map .list) else some i) = none
    rw [if_pos q]
    exact whand_few hs (i + 1) fun y hy => h y (List.mem_cons_of_mem _ hy)
theorem strs_back : ∀ bs : List Str, strsOf (.list (bs.map .str)) = bs
  | [] => rfl
  | z :: bs => congrArg (z :: ·) (strs_back bs)
theorem lists_back : ∀ hs : List (List PyData), listsOf (.list (hs.map .list)) = hs
  | [] => rfl
  | z :: hs => congrArg (z :: ·) (lists_back hs)
theorem sum_int : ∀ hs : List (List PyData), (hs.map fun h => (h.length : Int)).sum = (((hs.map List.length).sum : Nat) : Int)
  | [] => rfl
  | x :: hs => by
    rw [List.map_cons, List.map_cons, List.sum_cons, List.sum_cons, sum_int hs]
    omega
/-- what the law draws is a program -/
theorem prog_none {bs : List Str} {hs : List (List PyData)} {most : Int} (hm : most ≤ 4) (hb : Bxs bs) (hh : Hds bs most 16 hs) : dueLook (progD bs hs) = none := by
  obtain ⟨rest, hp⟩ := hb.of_
  have hmem : ∀ z ∈ bs, z ∈ bMenu := fun z hz => hp.subset (List.mem_append_left _ hz)
  have hnd : bs.Nodup := (List.nodup_append.mp (hp.nodup_iff.mpr menu_nodup)).1
  have e1 : wbox none 0 (bs.map .str) = none := by
    have hup := hb.up
    have h1 := hb.some_.1
    cases bs with
    | nil => exact absurd h1 (by decide)
    | cons z bs =>
      have q : nameB (.str z) = true := (bMenu_ok z (hmem z List.mem_cons_self)).1
      show (if (nameB (.str z) && true) = true then wbox (some z) 1 (bs.map .str) else some 0) = none
      rw [q, Bool.and_self, if_pos rfl]
      exact wbox_menu bs z 1 hmem hnd hup
  have b1 := hb.some_
  have h1 := hh.some_
  have d1 : dueBoxes (.list (bs.map .str)) = none := by
    show (if (decide ((1 : Int) ≤ ((bs.map PyData.str).length : Int)) && decide (((bs.map PyData.str).length : Int) ≤ 4)) = true then (match wbox none 0 (bs.map .str) with | none => none | some n => some (PyData.str "boxes", PyData.none, PyData.int (n : Int))) else some (PyData.str "boxes", PyData.none, PyData.none)) = none
    rw [List.length_map, decide_eq_true (by omega), decide_eq_true (by omega), e1]
    rfl
  have d2 : dueHands (.list (hs.map .list)) = none := by
    show (if (decide ((1 : Int) ≤ ((hs.map PyData.list).length : Int)) && decide (((hs.map PyData.list).length : Int) ≤ 4)) = true then (match whand 0 (hs.map .list) with | none => none | some n => some (PyData.str "hands", PyData.int (n : Int), PyData.none)) else some (PyData.str "hands", PyData.none, PyData.none)) = none
    rw [List.length_map, decide_eq_true (by omega), decide_eq_true (by omega), whand_few hs 0 hh.few]
    rfl
  have d3 : dueDeeds bs hs = none := by
    unfold dueDeeds
    rw [wds_all hs 0 fun h hm d hd => (hh.good h hm d hd).1]
    show (if decide ((16 : Int) < ((hs.map fun h => (h.length : Int)).sum)) = true then _ else _) = _
    have := hh.all
    rw [sum_int, decide_eq_false (by omega), if_neg Bool.false_ne_true]
  show (match dueBoxes (.list (bs.map .str)) with | some x => some x | none => match dueHands (.list (hs.map .list)) with | some x => some x | none => dueDeeds (strsOf (.list (bs.map .str))) (listsOf (.list (hs.map .list)))) = none
  rw [d1, d2, strs_back, lists_back]
  exact d3
end K61

namespace K61
open PySem PySem.Spec PyProof.Rows L2 Kp
theorem cutD_mem {ds : List PyData} {lo hi : Option Int} : (∀ d ∈ Kp.cutD ds lo hi, d ∈ ds) ∧ (Kp.cutD ds lo hi).length ≤ ds.length := by
  unfold Kp.cutD
  refine ⟨fun d h => List.mem_of_mem_drop (List.mem_of_mem_take h), ?_⟩
  rw [List.length_take, List.length_drop]
  omega
/-- few things, each small -/
def top5 : PyData → Bool
  | .tuple ds => decide (ds.length ≤ 5) && ds.all (sm 3)
  | .list ds => decide (ds.length ≤ 5) && ds.all (sm 3)
  | d => sm 3 d
theorem top5_ok {d : PyData} (h : top5 d = true) : d.showable = true ∧ d.depth ≤ 20 ∧ d.shown.length ≤ 16777216 := by
  have small : sm 3 d = true → d.showable = true ∧ d.depth ≤ 20 ∧ d.shown.length ≤ 16777216 := fun h => by
    obtain ⟨h1, h2, h3⟩ := sm_ok 3 d h
    exact ⟨h1, by omega, Nat.le_trans h3 (by decide)⟩
  cases d with
  | tuple ds =>
    have h : (decide (ds.length ≤ 5) && ds.all (sm 3)) = true := h
    rw [Bool.and_eq_true, decide_eq_true_eq, List.all_eq_true] at h
    have ih := fun d hd => sm_ok 3 d (h.2 d hd)
    refine ⟨?_, ?_, ?_⟩
    · simp only [PyData.showable]
      exact Kp.showableAll_of fun d hd => (ih d hd).1
    · simp only [PyData.depth]
      have := Kp.depthAll_of (n := 3) fun d hd => (ih d hd).2.1
      omega
    · rw [PyData.shown_tuple, Str.length_append, Str.length_append]
      have h1 := StrLaws.join_length_le ", " (PyData.shownAll ds)
      rw [show ((", " : String) : Str).length = 2 from rfl] at h1
      have h2 := sum_le (l := PyData.shownAll ds) (b := smB 3) (fun t ht => by
        obtain ⟨d, hd, rfl⟩ := shownAll_mem ht
        exact (ih d hd).2.2)
      have h3 : (PyData.shownAll ds).length ≤ 5 := by rw [PyData.shownAll_length]; exact h.1
      have e1 : (("(" : String) : Str).length = 1 := rfl
      have e2 : (((if ds.length == 1 then ",)" else ")" : String)) : Str).length ≤ 2 := by split <;> decide
      have e3 : ((", " : String) : Str).length = 2 := rfl
      have e4 : smB 3 = 2418524 := by decide
      have h5 : (PyData.shownAll ds).length * smB 3 ≤ 5 * smB 3 := Nat.mul_le_mul_right _ h3
      omega
  | list ds =>
    have h : (decide (ds.length ≤ 5) && ds.all (sm 3)) = true := h
    rw [Bool.and_eq_true, decide_eq_true_eq, List.all_eq_true] at h
    have ih := fun d hd => sm_ok 3 d (h.2 d hd)
    refine ⟨?_, ?_, ?_⟩
    · simp only [PyData.showable]
      exact Kp.showableAll_of fun d hd => (ih d hd).1
    · simp only [PyData.depth]
      have := Kp.depthAll_of (n := 3) fun d hd => (ih d hd).2.1
      omega
    · rw [PyData.shown_list, Str.length_append, Str.length_append]
      have h1 := StrLaws.join_length_le ", " (PyData.shownAll ds)
      rw [show ((", " : String) : Str).length = 2 from rfl] at h1
      have h2 := sum_le (l := PyData.shownAll ds) (b := smB 3) (fun t ht => by
        obtain ⟨d, hd, rfl⟩ := shownAll_mem ht
        exact (ih d hd).2.2)
      have h3 : (PyData.shownAll ds).length ≤ 5 := by rw [PyData.shownAll_length]; exact h.1
      have e1 : (("[" : String) : Str).length = 1 := rfl
      have e2 : (("]" : String) : Str).length = 1 := rfl
      have e3 : ((", " : String) : Str).length = 2 := rfl
      have e4 : smB 3 = 2418524 := by decide
      have h5 : (PyData.shownAll ds).length * smB 3 ≤ 5 * smB 3 := Nat.mul_le_mul_right _ h3
      omega
  | _ => exact small h
/-- what may be looked at -/
def Th (d : PyData) : Prop := top5 d = true ∧ okP d
theorem okB_sm {n : Nat} {d : PyData} (h : sm n d = true) : okB d := by
  cases d with
  | list ds =>
    cases n with
    | zero => cases h
    | succ n =>
      have h : (decide (ds.length ≤ 20) && ds.all (sm n)) = true := h
      rw [Bool.and_eq_true, List.all_eq_true] at h
      exact fun d hd => okL_sm (h.2 d hd)
  | _ => trivial
/-- what may stand for hands -/
def Hx (d : PyData) : Prop := sm 3 d = true ∧ ∀ l ∈ listsOf d, ∀ x ∈ l, okT x
/-- what may stand in a hand -/
def El (d : PyData) : Prop := sm 1 d = true ∧ noD d = true
/-- what may stand for a hand -/
def Hi (d : PyData) : Prop := sm 2 d = true ∧ ∀ l, d = .list l → ∀ x ∈ l, El x
theorem El.okT {d : PyData} (h : El d) : okT d := okT_sm (n := 1) (by decide) h.1 h.2
theorem Hi.lst {l : List PyData} (hl : l.length ≤ 20) (h : ∀ x ∈ l, El x) : Hi (.list l) := ⟨by
  show (decide (l.length ≤ 20) && l.all (sm 1)) = true
  rw [decide_eq_true hl, Bool.true_and, List.all_eq_true]
  exact fun d hd => (h d hd).1, fun l2 e x hx => by cases e; exact h x hx⟩
theorem Hx.lst {l : List PyData} (hl : l.length ≤ 20) (h : ∀ x ∈ l, Hi x) : Hx (.list l) := ⟨by
  show (decide (l.length ≤ 20) && l.all (sm 2)) = true
  rw [decide_eq_true hl, Bool.true_and, List.all_eq_true]
  exact fun d hd => (h d hd).1, fun m hm x hx => by
    obtain ⟨y, hy, e⟩ := List.mem_filterMap.mp hm
    cases y with
    | list z =>
      cases e
      exact El.okT ((h _ hy).2 _ rfl x hx)
    | _ => cases e⟩
theorem Hx.flat {d : PyData} (h : sm 3 d = true) (n : listsOf d = []) : Hx d := ⟨h, fun l hl => by rw [n] at hl; cases hl⟩
theorem Th.pair {b h : PyData} (hb : sm 3 b = true) (hh : Hx h) : Th (.tuple [b, h]) := ⟨by
  show (decide (2 ≤ 5) && (sm 3 b && (sm 3 h && true))) = true
  rw [hb, hh.1]
  rfl, okB_sm hb, hh.2⟩
end K61

namespace K61
open PySem PySem.Spec PyProof.Rows L2 Kp
theorem str_sm {n : Nat} {z : Str} (h : short z = true) : sm n (.str z) = true := by cases n <;> exact h
theorem strs_sm {n : Nat} {bs : List Str} (h : ∀ z ∈ bs, short z = true) : ∀ d ∈ bs.map PyData.str, sm n d = true := fun d hd => by
  obtain ⟨z, hz, rfl⟩ := List.mem_map.mp hd
  exact str_sm (h z hz)
theorem lst_sm {n : Nat} {ds : List PyData} (hl : ds.length ≤ 20) (h : ∀ d ∈ ds, sm n d = true) : sm (n + 1) (.list ds) = true := by
  show (decide (ds.length ≤ 20) && ds.all (sm n)) = true
  rw [decide_eq_true hl, Bool.true_and, List.all_eq_true]
  exact h
theorem tup_sm {n : Nat} {ds : List PyData} (hl : ds.length ≤ 20) (h : ∀ d ∈ ds, sm n d = true) : sm (n + 1) (.tuple ds) = true := by
  show (decide (ds.length ≤ 20) && ds.all (sm n)) = true
  rw [decide_eq_true hl, Bool.true_and, List.all_eq_true]
  exact h
end K61

namespace K61
open PySem PySem.Spec PyProof.Rows L2 Kp
theorem hx_of {hs : List (List PyData)} (h4 : hs.length ≤ 4) (h : ∀ x ∈ hs, x.length ≤ 8 ∧ ∀ y ∈ x, El y) : Hx (.list (hs.map .list)) := Hx.lst (by rw [List.length_map]; omega) fun d hd => by
  obtain ⟨x, hx, rfl⟩ := List.mem_map.mp hd
  exact Hi.lst (by have := (h x hx).1; omega) (h x hx).2
end K61


namespace K61
open PySem PySem.Spec PyProof.Rows L2 Kp
abbrev lSmall : Stmt := top 38
theorem sorted_up {zs : List Str} (h : sortedS zs = true) : sortedS zs = true := h
/-- hands as the law draws them, each of so many deeds -/
structure Hsm (bs : List Str) (most upto : Int) (hs : List (List PyData)) : Prop where
  some_ : 1 ≤ hs.length ∧ (hs.length : Int) ≤ most
  few : ∀ h ∈ hs, (h.length : Int) ≤ upto
  good : ∀ h ∈ hs, ∀ d ∈ h, Gd bs d
theorem sum_few {n : Nat} : ∀ {hs : List (List PyData)}, (∀ h ∈ hs, h.length ≤ n) → (hs.map List.length).sum ≤ hs.length * n
  | [], _ => by simp
  | x :: hs, h => by
    have ih := sum_few (hs := hs) fun y hy => h y (List.mem_cons_of_mem _ hy)
    have := h x List.mem_cons_self
    rw [List.map_cons, List.sum_cons, List.length_cons, Nat.succ_mul]
    omega
theorem Hsm.hds {bs : List Str} {most upto : Int} {hs : List (List PyData)} (h : Hsm bs most upto hs) (m4 : most ≤ 4) (u4 : upto ≤ 4) : Hds bs most 16 hs := by
  have f4 : ∀ x ∈ hs, x.length ≤ 4 := fun x hx => by have := h.few x hx; omega
  refine ⟨h.some_, fun x hx => by have := f4 x hx; omega, ?_, h.good⟩
  have := sum_few f4
  have h1 := h.some_
  have h4 : hs.length * 4 ≤ 16 := by omega
  omega
/-- what stands for a drawn program: its tuple t, its hands at p, all lists in it are leant on -/
def SmAt (st : Store) (t p : Addr) (bs : List Str) (hs : List (List PyData)) : Prop := (t, Ck.tup, [AV.dat (.list (bs.map .str)), AV.at_ p]) ∈ st ∧ (p, Ck.lst, hs.map fun l => AV.dat (.list l)) ∈ st
def cSmallM : Store → List AV → (Store → AV → Prop) → Prop := fun st as R => ∃ most upto : Int, as = [.pool, .dat (.int most), .dat (.int upto)] ∧ st = [] ∧ 1 ≤ most ∧ most ≤ 4 ∧ 0 ≤ upto ∧ upto ≤ 8 ∧
  ∀ st' bs hs t p, Bxs bs → Hsm bs most upto hs → SmAt st' t p bs hs → R st' (.at_ t)
def cSmall : List AV → (AV → Prop) → Prop := fun as R => ∃ most upto : Int, as = [.pool, .dat (.int most), .dat (.int upto)] ∧ 1 ≤ most ∧ most ≤ 4 ∧ 0 ≤ upto ∧ upto ≤ 8 ∧ ∀ bs hs, Bxs bs → Hsm bs most upto hs → R (.dat (progD bs hs))
section
variable {base : Heap} {K : PySem.W.Frag} {w : World} {P : Program} {mg : Str → Option Value}
abbrev nSmall : List Str := ["_law_pool_here", "_law_most", "_law_upto", "_law_shelves", "_law_names", "_law_crew", "_law_turn", "_law_k"]
theorem scSmall : FnScope nSmall ["_law_pool_here", "_law_most", "_law_upto"] (defScope lSmall) := ⟨rfl, rfl, rfl, by decide +kernel, rfl, by decide +kernel, by decide +kernel⟩
theorem map_dl (hs : List (List PyData)) : (hs.map PyData.list).map AV.dat = hs.map fun l => AV.dat (.list l) := by rw [List.map_map]; rfl
theorem l_small (B : Blt mg) (Dt : Dn P w K mg base "_law_take" 1 cTake) (Dp : Dn P w K mg base "_law_picked" 2 cPicked) (Dm : Dn P w K mg base "_law_deed" 2 cMk)
    (F : Fn0 K mg "_law_small" lSmall ["_law_pool_here", "_law_most", "_law_upto"]) : DnM P w K mg base "_law_small" 4 cSmallM := by
  refine dnM F scSmall (fun st as R ⟨_, _, e, _⟩ => by subst e; rfl) fun f cdv A outer s H E w0 st as R hr hC => ?_
  obtain ⟨most, upto, rfl, rfl, m1, m4, u0, u8, hR⟩ := hC
  show MSs _ _ _ [] [some .pool, some (.dat (.int most)), some (.dat (.int upto)), none, none, none, none, none] _
  refine m_cons (m_lift (ks_set 3 scSmall.nd rfl (.inr rfl) (k_cB dl_sorted rfl B.sorted b_sorted (ka_cons ?_))))
  refine k_cd Dp hr (by decide) rfl (ka_cons (k_var 0 rfl rfl (ka_cons (k_strs (zs := bMenu) rfl (by decide) (ka_cons ?_)))))
  refine k_add (k_int (k_take 0 Dt hr (by decide) rfl rfl rfl (k_int ⟨by decide, by decide, fun r hr4 => ?_⟩)))
  refine ka_nil ⟨rfl, bMenu, 1 + (r : Int), rfl, by decide, by omega, by omega, fun ys rest hp hl => ?_⟩
  have hm : (bMenu.length : Int) = 4 := rfl
  refine ka_nil ⟨ys, rfl, by omega, fun bs hz hup => ?_⟩
  have hpb : (bs ++ rest).Perm bMenu := (List.Perm.append_right _ hz).trans hp
  have hlb : (bs.length : Int) = ys.length := by have := hz.length_eq; omega
  have hbx : Bxs bs := ⟨⟨by omega, by omega⟩, ⟨rest, hpb⟩, hup⟩
  have hb : ∀ z ∈ bs, short z = true := fun z hz => (bMenu_ok z (hpb.subset (List.mem_append_left _ hz))).2
  show MSs _ _ _ [] [some .pool, some (.dat (.int most)), some (.dat (.int upto)), some (.dat (.list (bs.map .str))), none, none, none, none] _
  refine m_cons (m_lift (ks_set 4 scSmall.nd rfl (.inr rfl) ?_))
  refine k_cd Dp hr (by decide) rfl (ka_cons (k_var 0 rfl rfl (ka_cons (k_strs (zs := nMenu) rfl (by decide) (ka_cons ?_)))))
  refine k_add (k_int (k_take 0 Dt hr (by decide) rfl rfl rfl (k_int ⟨by decide, by decide, fun r2 hr2 => ?_⟩)))
  refine ka_nil ⟨rfl, nMenu, 1 + (r2 : Int), rfl, by decide, by omega, by omega, fun ns rest2 hp2 hl2 => ?_⟩
  have hn : ∀ z ∈ ns, nameB (.str z) = true ∧ short z = true := fun z hz => nMenu_ok z (hp2.subset (List.mem_append_left _ hz))
  have hmn : (nMenu.length : Int) = 3 := rfl
  show MSs _ _ _ [] [some .pool, some (.dat (.int most)), some (.dat (.int upto)), some (.dat (.list (bs.map .str))), some (.dat (.list (ns.map .str))), none, none, none] _
  refine m_cons (m_setM 5 scSmall.nd rfl (.inl rfl) (me_new (mn_lst (ka_nil ⟨rfl, Nat.zero_le _, fun p fp => ?_⟩))))
  show MSs _ _ _ [(p, Ck.lst, [])] [some .pool, some (.dat (.int most)), some (.dat (.int upto)), some (.dat (.list (bs.map .str))), some (.dat (.list (ns.map .str))), some (.at_ p), none, none] _
  refine m_cons (m_for PassesOwn.never rfl (fun _ => tgok1 6) (pg_name (i := 6) scSmall.nd rfl (Or.inl rfl)) (ki_rng1 rfl B.range (k_add (k_int (k_take 0 Dt hr (by decide) rfl rfl rfl (k_var 1 rfl rfl ⟨by omega, by omega, fun cnt hcnt => ?_⟩))))))
  refine ⟨by omega, by omega, fun i st' ss' => ∃ (hs : List (List PyData)) (o6 : Option AV), ss' = [some .pool, some (.dat (.int most)), some (.dat (.int upto)), some (.dat (.list (bs.map .str))), some (.dat (.list (ns.map .str))), some (.at_ p), o6, none] ∧
    (p, Ck.lst, hs.map fun l => AV.dat (.list l)) ∈ st' ∧ hs.length = i ∧ (∀ h ∈ hs, (h.length : Int) ≤ upto ∧ ∀ d ∈ h, Gd bs d), ⟨[], none, rfl, List.mem_cons_self, rfl, fun h q => absurd q List.not_mem_nil⟩, fun i d st' ss' hd hI => ?_, fun st' ss' hI => ?_⟩
  · obtain ⟨hs, o6, rfl, mp, g1, g4⟩ := hI
    have hi : i < (1 + (cnt : Int)).toNat := by
      have := (List.getElem?_eq_some_iff.mp hd).1
      rwa [rangeD_len] at this
    show MSs _ _ _ st' [some .pool, some (.dat (.int most)), some (.dat (.int upto)), some (.dat (.list (bs.map .str))), some (.dat (.list (ns.map .str))), some (.at_ p), some (.dat d), none] _
    refine m_one (m_app (k_var 5 rfl rfl ⟨p, _, rfl, mp, me_lift (k_ofN ?_)⟩))
    refine kn_lc (own := [("_law_k", 7)]) (g := gName 7) rfl scSmall.nd (blkOk_by (N := nSmall) (sc := defScope lSmall) (by decide +kernel)) (tgok1 7) (fun _ _ _ _ _ => pg_name (i := 7) scSmall.nd rfl (Or.inl rfl))
      (ki_rng1 rfl B.range (k_take 0 Dt hr (by decide) rfl rfl rfl (k_add (k_var 2 rfl rfl (k_int ⟨by omega, by omega, fun size hsize => ⟨by omega, by omega, ?_⟩⟩)))))
    refine ⟨by rw [rangeD_len]; omega, fun j es => es.length = j ∧ ∀ d ∈ es, Gd bs d, ⟨rfl, fun d q => absurd q List.not_mem_nil⟩, fun j d2 acc hd2 hp => ?_, fun es he => ?_⟩
    · obtain ⟨p1, p2⟩ := hp
      refine fun _ _ _ _ _ => k_cd Dm hr (by decide) rfl (ka_cons (k_var 0 rfl rfl (ka_cons (k_var 3 rfl rfl (ka_cons (k_var 4 rfl rfl (ka_cons (k_take 0 Dt hr (by decide) rfl rfl rfl (k_int ⟨by decide, by decide, fun way hway => ka_nil ⟨rfl, bs, ns, (way : Int), rfl, ⟨by omega, by omega, by omega, by omega⟩, hb, hn, by omega, by omega, fun dd hdd => ?_⟩⟩)))))))))
      refine ⟨by rw [List.length_append, p1]; rfl, fun x hx => ?_⟩
      rcases List.mem_append.mp hx with q | q
      · exact p2 x q
      · rw [List.mem_singleton.mp q]; exact hdd
    · obtain ⟨p1, p2⟩ := he
      rw [rangeD_len] at p1
      refine ⟨_, mp, by rw [List.length_map]; omega, hs ++ [es], some (.dat d), rfl, ?_, by rw [List.length_append, g1]; rfl, fun h hh => ?_⟩
      · have q := stSet_at (as := (hs.map fun l => AV.dat (.list l)) ++ [AV.dat (.list es)]) mp
        rw [List.map_append]
        exact q
      · rcases List.mem_append.mp hh with q | q
        · exact g4 h q
        · rw [List.mem_singleton.mp q]
          exact ⟨by omega, p2⟩
  · obtain ⟨hs, o6, rfl, mp, g1, g4⟩ := hI
    rw [rangeD_len] at g1
    have fin : ∀ (st' : Store) (hs : List (List PyData)), (p, Ck.lst, hs.map fun l => AV.dat (.list l)) ∈ st' → Hsm bs most upto hs →
        MSs (cxB P w K mg base nSmall "_law_small" (defScope lSmall) f cdv A outer s H E) w0 ((defBody lSmall).drop 5) st' [some .pool, some (.dat (.int most)), some (.dat (.int upto)), some (.dat (.list (bs.map .str))), some (.dat (.list (ns.map .str))), some (.at_ p), o6, none] { nx := fun st' _ => R st' (.dat .none), rt := R } := fun st' hs m Hh => by
      refine m_one (m_retM (me_new (mn_tup (ka_cons (k_var 3 rfl rfl (ka_cons (k_var 5 rfl rfl (ka_nil ⟨rfl, Nat.le_of_ble_eq_true rfl, fun t ft => ?_⟩))))))))
      exact hR _ bs hs t p hbx Hh ⟨List.mem_cons_self, List.mem_cons_of_mem _ m⟩
    have H0 : Hsm bs most upto hs := ⟨⟨by omega, by omega⟩, fun h hh => (g4 h hh).1, fun h hh => (g4 h hh).2⟩
    refine m_cons (m_if (kt_cm dc_seq (k_take 0 Dt hr (by decide) rfl rfl rfl (k_int ⟨by decide, by decide, fun r4 hr4 => k_int ?_⟩))))
    refine iteD (fun _ => ?_) (fun _ => m_nil (fin st' hs mp H0))
    cases hs with
    | nil => exact absurd H0.some_.1 (by decide)
    | cons h0 hs =>
      refine m_one (m_setI (me_lift (k_cT dl_list rfl B.list b_list (ka_cons (k_idxM (fun _ _ => rfl) (k_var 5 rfl rfl ⟨p, Ck.lst, _, rfl, mp, k_int ⟨0, .dat (.list h0), rfl, atI_nat (j := 0) rfl, ka_nil ?_⟩⟩))))))
      refine me_lift (k_var 5 rfl rfl ⟨p, _, rfl, mp, me_lift (k_neg (k_int ?_))⟩)
      refine ⟨-1, hs.length, _, rfl, mp, ?_, ?_⟩
      · rw [List.length_map, List.length_cons]
        unfold ixN
        rw [if_neg (by omega), if_pos (by omega)]
        exact congrArg some (by omega)
      · refine fin _ ((h0 :: hs).set hs.length h0) ?_ ⟨by rw [List.length_set]; exact H0.some_, fun h hh => ?_, fun h hh => ?_⟩
        · have q := stSet_at (as := ((h0 :: hs).map fun l => AV.dat (.list l)).set hs.length (AV.dat (.list h0))) mp
          rw [List.map_set]
          exact q
        · rcases List.mem_or_eq_of_mem_set hh with q | q
          · exact H0.few h q
          · rw [q]; exact H0.few h0 List.mem_cons_self
        · rcases List.mem_or_eq_of_mem_set hh with q | q
          · exact H0.good h q
          · rw [q]; exact H0.good h0 List.mem_cons_self
theorem small_data (D : DnM P w K mg base "_law_small" 4 cSmallM) : Dn P w K mg base "_law_small" 4 cSmall := D.data fun as R ⟨most, upto, e, s1, s4, u1, u2, hR⟩ => ⟨most, upto, e, rfl, s1, s4, u1, u2, fun st' bs hs t p hb hh HS => ⟨progD bs hs, .tup HS.1 (.cons (.dat _) (.cons (.lst HS.2 (by rw [← map_dl]; exact SplA.dats)) .nil)), hR bs hs hb hh⟩⟩
end
end K61


namespace Kp
open PySem PySem.Spec PyProof.Rows L2
/-! ### sets whose members are whole numbers, or texts: made of a list, sorted -/
structure SKd (P : Program) (w : World) (T : Type) [DecidableEq T] where
  kd : PySem.KeyKind P w T
  val : T → Tok → Value
  ky : Value → T
  kyk : ∀ k t, ky (val k t) = k
  isk : ∀ k j t, kd.is k (val j t) = true ↔ j = k
  sca : ∀ k t, (val k t).scannable = true
def skI (P : Program) (w : World) : SKd P w Int := ⟨PySem.intKind P w, fun k t => .int k t, fun v => match v with | .int k _ => k | _ => 0, fun _ _ => rfl, fun k j t => by
  show ((j == k) = true) ↔ j = k
  exact beq_iff_eq, fun _ _ => rfl⟩
def skS (P : Program) (w : World) : SKd P w Str := ⟨PySem.strKind P w, fun k t => .str k t, fun v => match v with | .str k _ => k | _ => Str.empty, fun _ _ => rfl, fun k j t => by
  show ((j == k) = true) ↔ j = k
  exact beq_iff_eq, fun _ _ => rfl⟩
section
variable {P : Program} {w : World} {T : Type} [DecidableEq T] (D : SKd P w T)
def Ent (e : Int × Value) : Prop := ∃ k t, e.2 = D.val k t ∧ e.1 = D.kd.hash k
def kyE (e : Int × Value) : T := D.ky e.2
/-- a set's object: its entries, its table -/
structure SgO (M : T → Bool) (n : Nat) (o : Obj) (es : Array (Int × Value)) (ep : Nat) (tb : SetTable) : Prop where
  exact_ : o.ExactSet
  data : o.data = .set es ep tb
  ents : ∀ e ∈ es.toList, Ent D e
  nd : (es.toList.map (kyE D)).Nodup
  mem : ∀ k, M k = true ↔ k ∈ es.toList.map (kyE D)
  room : es.size < scanBound
  fits : tb.fits es.size = true
  size : es.size = n
  ris : Ris tb.place.toList
  led : w.params.followText "set-order" = true ∨ tb.led = true
def Sg (h : Heap) (a : Addr) (M : T → Bool) (n : Nat) : Prop := ∃ o es ep tb, h.get? a = some o ∧ SgO D M n o es ep tb
variable {D}
theorem Sg.keep {h h' : Heap} {a : Addr} {M : T → Bool} {n : Nat} (R : Sg D h a M n) (k : ∀ o, h.get? a = some o → h'.get? a = some o) : Sg D h' a M n :=
  let ⟨o, es, ep, tb, ho, r⟩ := R
  ⟨o, es, ep, tb, k o ho, r⟩
theorem Sg.congr {h : Heap} {a : Addr} {M M' : T → Bool} {n : Nat} (R : Sg D h a M n) (e : ∀ k, M' k = M k) : Sg D h a M' n := by
  rw [show M' = M from funext e]
  exact R
theorem Ent.is {e : Int × Value} (g : Ent D e) (k : T) : D.kd.is k e.2 = true ↔ kyE D e = k := by
  obtain ⟨j, t, q, _⟩ := g
  unfold kyE
  rw [q, D.kyk]
  exact D.isk k j t
theorem ents_elems {l : List (Int × Value)} (g : ∀ e ∈ l, Ent D e) : ElemsOf D.kd l := fun e he => by
  obtain ⟨k, t, q1, q2⟩ := g e he
  exact ⟨⟨k, by rw [q1]; exact (D.isk k k t).2 rfl, q2⟩, by rw [q1]; exact D.sca k t⟩
theorem ents_has {l : List (Int × Value)} (g : ∀ e ∈ l, Ent D e) (k : T) : k ∈ l.map (kyE D) ↔ ∃ e ∈ l, D.kd.is k e.2 = true := by
  rw [List.mem_map]
  exact ⟨fun ⟨e, he, q⟩ => ⟨e, he, ((g e he).is k).2 q⟩, fun ⟨e, he, q⟩ => ⟨e, he, ((g e he).is k).1 q⟩⟩
section
variable {A : Around} {E : Value → Shared → Prop} {s : Shared} {a : Addr} {M : T → Bool} {n : Nat}
/-- the new entries are stored, the table laid anew where it is too full -/
theorem sg_tail {g : Bool → Sem Unit} (hg : ∀ (b : Bool) (s1 : Shared) (Q1 : Unit → Shared → Prop), Q1 () s1 → wpAny (model P w) A (g b) Q1 E s1)
    {o : Obj} {es es1 : Array (Int × Value)} {ep : Nat} {tb t1 : SetTable} {M1 : T → Bool} (ho : s.heap.get? a = some o) (hx : o.ExactSet) (hd : o.data = .set es ep tb)
    (q1 : ∀ e ∈ es1.toList, Ent D e) (q2 : (es1.toList.map (kyE D)).Nodup) (q3 : ∀ k, M1 k = true ↔ k ∈ es1.toList.map (kyE D)) (q4 : es1.size < scanBound) (q5 : t1.fits es1.size = true) (q6 : Ris t1.place.toList) (q7 : w.params.followText "set-order" = true ∨ t1.led = true)
    {dm : Bool} {Z : Option Bool → Shared → Prop} (hZ : ∀ h1, Heap.SameBut a s.heap h1 → Sg D h1 a M1 es1.size → Z (some true) { s with heap := h1 }) :
    wpAny (model P w) A (do
      storeSet a es1 t1
      if (!dm && t1.tooFull) = true then do
        g (relayAll t1 es1 (SetTable.grown es1.size)).2.2
        storeSet a (relayAll t1 es1 (SetTable.grown es1.size)).1 (relayAll t1 es1 (SetTable.grown es1.size)).2.1
        pure (some true)
      else pure (some true)) Z E s := by
  refine wpAny_bind (wpAny_storeSet_of ho hd ?_ (fits_of_scanBound q4))
  have ho1 := store_at (es' := es1) (t' := t1) ho hd
  have sb1 := Heap.SameBut.update s.heap a (Obj.putSet es1 t1)
  by_cases full : (!dm && t1.tooFull) = true
  · rw [if_pos full]
    have c1 := relayAll_perm t1 es1 (SetTable.grown es1.size)
    have c2 := relayAll_fits t1 es1 (SetTable.grown es1.size)
    have c3 := relayAll_ris t1 es1 (SetTable.grown es1.size)
    have c4 := relayAll_led t1 es1 (SetTable.grown es1.size)
    generalize relayAll t1 es1 (SetTable.grown es1.size) = Y at c1 c2 c3 c4 ⊢
    obtain ⟨es2, t2, gv⟩ := Y
    have sz : es2.size = es1.size := by
      have := c1.length_eq
      rw [Array.length_toList, Array.length_toList] at this
      exact this
    refine wpAny_bind (hg _ _ _ (wpAny_bind (wpAny_storeSet_of ho1 rfl ?_ (fits_of_scanBound (by rw [sz]; exact q4)))))
    refine wpAny_pure (hZ _ (sb1.trans (Heap.SameBut.update _ a _)) ⟨_, es2, ep + 1 + 1, t2, store_at (es' := es2) (t' := t2) ho1 rfl, ?_⟩)
    exact ⟨hx, rfl, fun e he => q1 e (c1.mem_iff.mp he), (c1.map (kyE D)).nodup_iff.mpr q2, fun k => (q3 k).trans (c1.map (kyE D)).mem_iff.symm, by rw [sz]; exact q4, c2, sz, c3, q7.imp id fun z => by rw [c4]; exact z⟩
  · rw [if_neg full]
    exact wpAny_pure (hZ _ sb1 ⟨_, es1, ep + 1, t1, ho1, ⟨hx, rfl, q1, q2, q3, q4, q5, rfl, q6, q7⟩⟩)
theorem sg_add {k : T} {tk : Tok} {Z : Bool → Shared → Prop} (R : Sg D s.heap a M n) (room : n + 1 < scanBound)
    (hZ : ∀ h1, Heap.SameBut a s.heap h1 → Sg D h1 a (fun j => M j || decide (j = k)) (if M k = true then n else n + 1) → Z (!M k) { s with heap := h1 }) :
    wpAny (model P w) A (setAddHashed a (D.val k tk) (D.kd.hash k)) Z E s := by
  obtain ⟨o, es, ep, tb, ho, q⟩ := R
  have own : D.kd.is k (D.val k tk) = true := (D.isk k k tk).2 rfl
  have el : ElemsOf D.kd es.toList := ents_elems q.ents
  unfold setAddHashed setAddHashedIn
  refine wpAny_holding (wpAny_bind (wpAny_setState_of ho q.data q.fits ?_))
  dsimp only
  rw [byScan_of (D.sca k tk) q.room el]
  simp only [↓reduceIte]
  unfold setAddByScan
  refine wpAny_bind (wpAny_bind (wpAny_rule (wpAny_bind (wpAny_setScan_of own ho q.data q.fits el ?_))))
  have quiet : ∀ (b : Bool) (s1 : Shared) (Q1 : Unit → Shared → Prop), Q1 () s1 → wpAny (model P w) A (match b with | true => rule "set.scan.the-table-gave-way" | false => pure ()) Q1 E s1 := fun b s1 Q1 z => by
    cases b
    · exact wpAny_pure z
    · exact wpAny_rule z
  cases hfi : List.findIdx? (fun e => D.kd.is k e.2) es.toList with
  | some j =>
    dsimp only
    obtain ⟨hj, pj, _⟩ := List.findIdx?_eq_some_iff_getElem.mp hfi
    have has : M k = true := (q.mem k).2 ((ents_has q.ents k).2 ⟨es.toList[j], List.getElem_mem hj, pj⟩)
    have fin := hZ s.heap (Heap.SameBut.refl a s.heap) ⟨o, es, ep, tb, ho, q.exact_, q.data, q.ents, q.nd, fun i => by
      rw [Bool.or_eq_true, decide_eq_true_eq, ← q.mem i]
      exact ⟨fun z => z.elim id (fun e => e ▸ has), .inl⟩, q.room, q.fits, by rw [if_pos has]; exact q.size, q.ris, q.led⟩
    rw [has] at fin
    exact wpAny_pure (wpAny_pure fin)
  | none =>
    dsimp only
    have hnk : k ∉ es.toList.map (kyE D) := fun z => by
      obtain ⟨e, he, p⟩ := (ents_has q.ents k).1 z
      have := List.findIdx?_eq_none_iff.mp hfi e he
      rw [p] at this
      cases this
    have hasn : M k = false := by
      cases z : M k with
      | false => rfl
      | true => exact absurd ((q.mem k).1 z) hnk
    have c1 := layNew_perm tb es (D.kd.hash k) (D.val k tk)
    have c2 := layNew_fits tb es (D.kd.hash k) (D.val k tk)
    have c3 := layNew_ris tb es (D.kd.hash k) (D.val k tk) q.ris
    have c4 := layNew_led tb es (D.kd.hash k) (D.val k tk)
    generalize layNew tb es (D.kd.hash k) (D.val k tk) = Y at c1 c2 c3 c4 ⊢
    obtain ⟨es1, t1, dm, gv⟩ := Y
    dsimp only at c1 c2 c3 c4 ⊢
    rw [Array.toList_push] at c1
    have pc : es1.toList.Perm ((D.kd.hash k, D.val k tk) :: es.toList) := c1.trans (List.perm_append_singleton _ _)
    have pk : (es1.toList.map (kyE D)).Perm (k :: es.toList.map (kyE D)) := by
      have := pc.map (kyE D)
      rw [List.map_cons] at this
      have e : kyE D (D.kd.hash k, D.val k tk) = k := D.kyk k tk
      rw [e] at this
      exact this
    have f1 : ∀ e ∈ es1.toList, Ent D e := fun e he => by
      rcases List.mem_cons.mp (pc.mem_iff.mp he) with z | z
      · rw [z]; exact ⟨k, tk, rfl, rfl⟩
      · exact q.ents e z
    have f2 : (es1.toList.map (kyE D)).Nodup := pk.nodup_iff.mpr (List.nodup_cons.mpr ⟨hnk, q.nd⟩)
    have f3 : ∀ i, (M i || decide (i = k)) = true ↔ i ∈ es1.toList.map (kyE D) := fun i => by
      rw [Bool.or_eq_true, decide_eq_true_eq, q.mem i, pk.mem_iff, List.mem_cons]
      exact Or.comm
    have sz : es1.size = n + 1 := by
      have := pc.length_eq
      rw [Array.length_toList, List.length_cons, Array.length_toList, q.size] at this
      exact this
    have f4 : es1.size < scanBound := by rw [sz]; exact room
    have f7 : w.params.followText "set-order" = true ∨ t1.led = true := q.led.imp id fun z => by rw [c4]; exact z
    have fin : ∀ h1, Heap.SameBut a s.heap h1 → Sg D h1 a (fun j => M j || decide (j = k)) es1.size → Z true { s with heap := h1 } := fun h1 sb r => by
      have := hZ h1 sb
      rw [hasn] at this
      rw [sz] at r
      exact this r
    refine wpAny_bind (quiet _ _ _ ?_)
    split
    · refine wpAny_bind ?_
      rw [hashByValue_scannable 8 (D.sca k tk)]
      refine wpAny_pure (sg_tail quiet ho q.exact_ q.data f1 f2 f3 f4 ?_ ?_ ?_ fun h1 sb r => wpAny_pure (fin h1 sb r))
      · split
        · exact c2
        · exact SetTable.fits_plain_off c2
      · split <;> exact c3
      · split <;> exact f7
    · refine wpAny_bind (wpAny_pure ?_)
      simp only [↓reduceIte]
      exact sg_tail quiet ho q.exact_ q.data f1 f2 f3 f4 c2 c3 f7 fun h1 sb r => wpAny_pure (fin h1 sb r)
end
end
end Kp


namespace Kp
open PySem PySem.Spec PyProof.Rows L2
/-- a set as it is made -/
abbrev nSet (w : World) : Obj := { cls := .type "set", dict := none, data := .set #[] 0 (.fresh 0 0 (!w.params.followText "set-order")) }
section
variable {P : Program} {w : World} {T : Type} [DecidableEq T] {D : SKd P w T} {A : Around} {E : Value → Shared → Prop} {s : Shared}
theorem sg_new {h : Heap} {a : Addr} (ho : h.get? a = some (nSet w)) : Sg D h a (fun _ => false) 0 :=
  ⟨_, #[], 0, _, ho, ⟨rfl, rfl, rfl⟩, rfl, fun e he => absurd he (by simp), by simp, fun k => by simp, by decide, rfl, rfl, List.Pairwise.nil, by
    cases z : w.params.followText "set-order"
    · exact .inr rfl
    · exact .inl rfl⟩
/-- what is walked is put in -/
theorem sg_loop {I : Addr} {fp wr : List Addr} {G : Array GenState → Array GenState → Prop} {Pv : Nat → Value → Prop} {St : Nat → Shared → Prop} {Z : Result → Shared → Prop} {ks : List T}
    (W : WalksS P w A.in1 I fp wr G ks.length Pv St) (S : Addr) (hf : S ∉ fp) (hb : ks.length + 1 < scanBound) (hv : ∀ i v, Pv i v → ∃ k t, ks[i]? = some k ∧ v = D.val k t) :
    ∀ (m i : Nat) (s : Shared), ks.length - i = m → i ≤ ks.length → St i s → (∃ c, c ≤ i ∧ Sg D s.heap S (fun j => decide (j ∈ ks.take i)) c) →
      (∀ s1 c, Moved (S :: wr) G s s1 → c ≤ ks.length → Sg D s1.heap S (fun j => decide (j ∈ ks)) c → Z (.ok (.ret .none)) s1) →
      codeAny (model P w) A (.builtin "set.update.loop" ⟨[.ref S, .ref I], []⟩) Z s := by
  have nw : S ∉ wr := fun h => hf (W.sub _ h)
  have up : ∀ b ∈ wr, b ∈ S :: wr := fun b hb => List.mem_cons_of_mem _ hb
  intro m
  induction m with
  | zero =>
    intro i s hm hi hst ⟨c, hc, hS⟩ hZ
    have e : i = ks.length := by omega
    subst e
    refine codeAny_builtin PyProof.Rows.F.entry_set_update_loop ?_
    rw [Around.under_plainId PyProof.Rows.F.plain_set_update_loop _]
    show wpAny _ A.in1 (pyNext (.ref I) >>= _) _ _ s
    refine wpAny_bind (W.done s _ _ hst fun s1 mv => ?_)
    rw [List.take_length] at hS
    exact wpAny_pure (hZ s1 c (mv.mono up) hc (hS.keep fun o e => mv.heap S o nw e))
  | succ m ih =>
    intro i s hm hi hst ⟨c, hc, hS⟩ hZ
    have lt : i < ks.length := by omega
    refine codeAny_builtin PyProof.Rows.F.entry_set_update_loop ?_
    rw [Around.under_plainId PyProof.Rows.F.plain_set_update_loop _]
    show wpAny _ A.in1 (pyNext (.ref I) >>= _) _ _ s
    refine wpAny_bind (W.item i s _ _ lt hst fun v s1 hP hst1 mv => ?_)
    obtain ⟨k, t, hk, rfl⟩ := hv i v hP
    have hS1 : Sg D s1.heap S (fun j => decide (j ∈ ks.take i)) c := hS.keep fun o e => mv.heap S o nw e
    show wpAny _ A.in1 (holding [D.val k t] (setAdd S (D.val k t)) >>= _) _ _ s1
    refine wpAny_bind (wpAny_holding ?_)
    unfold setAdd
    refine wpAny_holding (wpAny_bind (D.kd.pyHash (k := k) ((D.isk k k t).2 rfl) ?_))
    refine sg_add (s := { s1 with toks := s1.toks + 1 }) hS1 (by omega) fun h1 sb hS2 => ?_
    have hS3 : Sg D h1 S (fun j => decide (j ∈ ks.take (i + 1))) (if decide (k ∈ ks.take i) = true then c else c + 1) := hS2.congr fun j => by
      rw [List.take_add_one, hk]
      simp [List.mem_append]
    have hc3 : (if decide (k ∈ ks.take i) = true then c else c + 1) ≤ i + 1 := by split <;> omega
    refine wpAny_pure ⟨plainId_quiet PyProof.Rows.F.plain_set_update_loop _, ih (i + 1) _ (by omega) lt (W.frame _ s1 _ _ hst1 (Nat.le_succ _) fun b hb o e => ?_) ⟨_, hc3, hS3⟩ fun s2 c2 mv2 hc2 hS4 => ?_⟩
    · have ne : b ≠ S := fun h => hf (by rw [← h]; exact hb)
      exact (sb.2 b ne).trans e
    · refine hZ s2 c2 (Moved.trans W.gtrans ((mv.mono up).then_heap (Nat.le_succ _) fun b o hb e => ?_) mv2) hc2 hS4
      have ne : b ≠ S := fun h => hb (by rw [h]; exact List.mem_cons_self)
      exact (sb.2 b ne).trans e
/-- set(a list) -/
theorem sg_call {l : Addr} {items : Array Value} {ks : List T} {Q : Value → Shared → Prop} (hh : A.handled = none) (hl : s.heap.IsList l items) (hit : items.size = ks.length ∧ ∀ (i : Nat) (v : Value), items[i]? = some v → ∃ k t, ks[i]? = some k ∧ v = D.val k t) (hb : ks.length + 1 < scanBound)
    (h : ∀ (h1 : Heap) (tk c : Nat), Sg D h1 s.heap.objs.size (fun j => decide (j ∈ ks)) c → c ≤ ks.length → (∀ b o, s.heap.get? b = some o → h1.get? b = some o) → Q (.ref s.heap.objs.size) { s with heap := h1, toks := tk }) :
    wpAny (model P w) A (call (.type "set") [.ref l]) Q E s := by
  obtain ⟨isz, hval⟩ := hit
  obtain ⟨c, tl, hmro⟩ := PySem.F.called_set.mro
  have hmade := PySem.F.called_set.made
  have hsub := PySem.F.called_set.sub
  have h1 := PySem.F.called_set.notType
  have h2 := PySem.F.called_set.canCreate
  have hct := PySem.F.typeCall_set_1 (.ref l)
  refine wpAny_call (codeAny_of_tree ?_)
  show wpAny _ _ (callAny (.type "set") _) _ _ _
  refine wpAny_pure ⟨Code.quiet_builtin _ (by decide +kernel), codeAny_builtin PySem.F.entry_type_call ?_⟩
  rw [Around.under_plain (weight_type_call_type "set" [.ref l] []) rfl]
  repeat (any_goals (first | assumption | wp_step))
  refine codeAny_mono (code_set_led1 (.ref l) (E := E) (Q₁ := fun obj s1 => obj = .ref s.heap.objs.size ∧ s1 = { s with heap := s.heap.push (nSet w) }) ⟨rfl, rfl⟩) fun r s1 hr => ?_
  cases r with
  | error e => exact hr
  | ok fl =>
    cases fl with
    | ret obj =>
      obtain ⟨rfl, rfl⟩ := hr
      have gS : (s.heap.push (nSet w)).get? s.heap.objs.size = some (nSet w) := Heap.get?_push_size _ rfl
      have hT : Shared.TypeIs { s with heap := s.heap.push (nSet w) } (.ref s.heap.objs.size) "set" := ⟨_, gS, rfl⟩
      have hli := PySem.F.called_set.init.lookup
      have hbi := PySem.F.called_set.init.bind (.ref s.heap.objs.size)
      repeat (any_goals (first | assumption | wp_step))
      refine codeAny_mono (codeAny_call_builtin (R := wants (fun r s2 => r = .none ∧ ∃ h1 tk c, s2 = { s with heap := h1, toks := tk } ∧ Sg D h1 s.heap.objs.size (fun j => decide (j ∈ ks)) c ∧ c ≤ ks.length ∧ ∀ b o, s.heap.get? b = some o → h1.get? b = some o) E) PySem.F.called_set.init.plain PySem.F.entry_set_init (check_set_init_1 hT ?_)) fun r2 s2 hr2 => ?_
      · obtain ⟨ol, gl, hcl, nl, hdl⟩ := hl
        obtain ⟨oc, od, odt, osl⟩ := ol
        simp only at hcl hdl
        subst hcl; subst hdl
        have gl1 : (s.heap.push (nSet w)).get? l = some { cls := .type "list", dict := od, data := .seq items nl, slots := osl } := Heap.get?_push_of_some _ gl
        have hsls := PySem.F.sub_list_set
        have hslf := PySem.F.sub_list_frozenset
        have hne : (Value.type "list" == Value.type "dict") = false := by decide
        have hl1 : (s.heap.push (nSet w)).IsList l items := ⟨_, gl1, rfl, nl, rfl⟩
        unfold Builtin.«set.__init__» noKeywords Builtin.Frozenset.updateFrom
        generalize hPI : pyIter = PI
        wp_walk
        subst hPI
        refine wpAny_pyIter_list hl1 (wpAny_bind (wpAny_runValue ?_))
        have ll : l < s.heap.objs.size := Heap.lt_size gl
        have h3 : A.in1.in1.in1.handled = none := by simp [hh]
        have sz1 : (s.heap.push (nSet w)).objs.size = s.heap.objs.size + 1 := Heap.size_push ..
        have neI : l ≠ (s.heap.push (nSet w)).objs.size := by rw [sz1]; exact Nat.ne_of_lt (Nat.lt_succ_of_lt ll)
        have nf : s.heap.objs.size ∉ [(s.heap.push (nSet w)).objs.size, l] := by
          rw [sz1]
          simp only [List.mem_cons, List.not_mem_nil, or_false, not_or]
          exact ⟨Nat.ne_of_lt (Nat.lt_succ_self _), Nat.ne_of_gt ll⟩
        have WL : WalksS P w A.in1.in1.in1 _ _ _ _ _ _ _ := (Walks.list h3 _ l neI items).toS
        rw [isz] at WL
        refine sg_loop (D := D) (ks := ks) WL s.heap.objs.size nf hb hval (ks.length - 0) 0 _ rfl (Nat.zero_le _) ⟨⟨_, Heap.get?_push_size _ rfl, rfl, rfl⟩, hl1.push _⟩ ?_ ?_
        · refine ⟨0, Nat.le_refl 0, Sg.congr (sg_new (Heap.get?_push_of_some _ gS)) fun k => ?_⟩
          simp
        · intro s3 c3 mv hc3 hS3
          obtain ⟨h4, g4, d4, t4, o4⟩ := s3
          have e1 : g4 = s.gens := mv.gens
          have e2 : d4 = s.drawn := mv.drawn
          have e3 : o4 = s.os := mv.os
          subst e1; subst e2; subst e3
          show wpAny _ _ _ _ _ _
          refine wpAny_pure ?_
          show wpAny _ _ (ret Value.none) _ _ _
          refine wpAny_pure ⟨rfl, h4, t4, c3, rfl, hS3, hc3, fun b o e => ?_⟩
          have hb0 : b < s.heap.objs.size := Heap.lt_size e
          refine mv.heap b o ?_ (Heap.get?_push_of_some _ (Heap.get?_push_of_some _ e))
          rw [sz1]
          simp only [List.mem_cons, List.not_mem_nil, or_false, not_or]
          exact ⟨Nat.ne_of_lt hb0, Nat.ne_of_lt (Nat.lt_succ_of_lt hb0)⟩
      · cases r2 with
        | error e => exact hr2
        | ok f2 =>
          cases f2 with
          | ret r =>
            obtain ⟨rfl, h4, tk, c4, rfl, hS4, hc4, hk4⟩ := hr2
            repeat (any_goals (first | assumption | wp_step))
            exact h _ _ _ hS4 hc4 hk4
          | _ => exact hr2.elim
    | _ => exact hr.elim
end
end Kp


namespace Kp
open PySem PySem.Spec PyProof.Rows L2
section
variable {P : Program} {w : World} {T : Type} [DecidableEq T] {D : SKd P w T} {A : Around} {E : Value → Shared → Prop} {s : Shared} {a : Addr}
/-- the members come in some order, each once -/
theorem sg_sorted {M : T → Bool} {n : Nat} {Q : Value → Shared → Prop} (Z : Array Value → List T → Prop) (R : Sg D s.heap a M n) (hh : A.handled = none) (h64 : n < 64)
    (hsort : ∀ (s1 : Shared) (L : Addr) (vs : List Value) (Fn : PySem.Fin → Shared → Prop), s1.heap.get? L = some (seqObj "list" vs.toArray 0) → vs.length < 64 → (∀ v ∈ vs, ∃ k t, v = D.val k t) → 
      (∀ (out : Array Value) (ks : List T), Z out ks → ks.Perm (vs.map D.ky) → Fn (.done (.ret .none)) { s1 with heap := sortedHeap s1.heap L vs out }) → wpAny (model P w) A.in1.in1 (Builtin.«list.sort» ⟨[.ref L], []⟩) Fn E s1)
    (hQ : ∀ s1 p (out : Array Value) (c : Nat) (ks : List T), (∀ b o, s.heap.get? b = some o → s1.heap.get? b = some o) → s1.gens = s.gens → s1.os = s.os → s.heap.objs.size ≤ p →
      s1.heap.get? p = some (seqObj "list" out c) → Z out ks → ks.Nodup → (∀ k, k ∈ ks ↔ M k = true) → ks.length = n → Q (.ref p) s1) :
    wpAny (model P w) A (call (.builtin "sorted") [.ref a]) Q E s := by
  obtain ⟨o, es, ep, tb, ho, q⟩ := R
  refine Calls.call_function_entry kind_sorted plain_sorted entry_sorted (args_sorted1 _) ?_
  unfold Builtin.«sorted»
  refine wpAny_bind (m := checkCount "sorted" 1 1 _) (wpAny_pure ?_)
  refine wpAny_bind (collect_set (A := A.in1) hh ⟨o, ho, q.exact_.1, q.data⟩ q.fits q.room q.ris q.led fun s1 vs k1 hz g1 o1 pm => ?_)
  have lv : vs.length = n := by
    have := pm.length_eq
    rw [List.length_map, Array.length_toList] at this
    exact this.trans q.size
  have hv : ∀ v ∈ vs, ∃ k t, v = D.val k t := fun v m => by
    obtain ⟨e, he, z⟩ := List.mem_map.mp (pm.mem_iff.mp m)
    obtain ⟨k, t, z1, _⟩ := q.ents e he
    exact ⟨k, t, z ▸ z1⟩
  have pk : (vs.map D.ky).Perm (es.toList.map (kyE D)) := by
    have := pm.map D.ky
    rw [List.map_map] at this
    exact this
  refine wpAny_bind (wpAny_newList ?_ (by rw [lv, sizeLine_eq]; omega))
  have gL : (s1.heap.push (seqObj "list" vs.toArray 0)).get? s1.heap.objs.size = some (seqObj "list" vs.toArray 0) := Heap.get?_push_size _ rfl
  refine wpAny_bind (wpAny_holding (wpAny_call_entry slot_list_sort ⟨_, gL, rfl⟩ entry_list_sort (hsort _ _ vs _ gL (by rw [lv]; exact h64) hv fun out ks z1 z2 => ⟨_, rfl, ?_⟩) (args_list_sort _)))
  obtain ⟨c, hc⟩ := sortedHeap_at (vs := vs) (out := out) gL
  have pn : ks.Perm (es.toList.map (kyE D)) := z2.trans pk
  refine wpAny_pure ⟨_, rfl, hQ _ s1.heap.objs.size out c ks (fun b u e => ?_) g1 o1 hz hc z1 (pn.nodup_iff.mpr q.nd) (fun k => by rw [pn.mem_iff]; exact (q.mem k).symm) ?_⟩
  · have lt := Heap.lt_size (k1 b u e)
    show (sortedHeap (s1.heap.push (seqObj "list" vs.toArray 0)) s1.heap.objs.size vs out).get? b = some u
    rw [sortedHeap_old (Nat.ne_of_lt lt) (by rw [size_push']; exact Nat.lt_succ_of_lt lt)]
    exact Heap.get?_push_of_some _ (k1 b u e)
  · rw [pn.length_eq, List.length_map, Array.length_toList]
    exact q.size
theorem sorted_skI {M : Int → Bool} {n : Nat} {Q : Value → Shared → Prop} (R : Sg (skI P w) s.heap a M n) (hh : A.handled = none) (h64 : n < 64)
    (hQ : ∀ s1 p (out : Array Value) (c : Nat) (ks : List Int), (∀ b o, s.heap.get? b = some o → s1.heap.get? b = some o) → s1.gens = s.gens → s1.os = s.os → s.heap.objs.size ≤ p →
      s1.heap.get? p = some (seqObj "list" out c) → IntsAre out.toList ks → ks.Pairwise (· < ·) → (∀ k, k ∈ ks ↔ M k = true) → ks.length = n → Q (.ref p) s1) :
    wpAny (model P w) A (call (.builtin "sorted") [.ref a]) Q E s :=
  sg_sorted (fun out ks => IntsAre out.toList ks ∧ ks.Pairwise (· ≤ ·)) R hh h64 (fun s1 L vs Fn gL l64 hv hF => by
    have hI : IntsAre vs (vs.map (skI P w).ky) := by
      clear gL l64 hF
      induction vs with
      | nil => exact .nil
      | cons v vs ih =>
        obtain ⟨k, t, rfl⟩ := hv _ List.mem_cons_self
        exact .cons k t (ih fun u hu => hv u (List.mem_cons_of_mem _ hu))
    exact list_sort_tree gL hI l64 fun out ns a1 a2 a3 => hF out ns ⟨a1, a3⟩ a2) fun s1 p out c ks k1 g1 o1 hz hc z1 nd mm hl => hQ s1 p out c ks k1 g1 o1 hz hc z1.1 (lt_of_le_nodup ks z1.2 nd) mm hl
theorem sorted_skS {M : Str → Bool} {n : Nat} {Q : Value → Shared → Prop} (R : Sg (skS P w) s.heap a M n) (hh : A.handled = none) (h64 : n < 64)
    (hQ : ∀ s1 p (out : Array Value) (c : Nat) (ks : List Str), (∀ b o, s.heap.get? b = some o → s1.heap.get? b = some o) → s1.gens = s.gens → s1.os = s.os → s.heap.objs.size ≤ p →
      s1.heap.get? p = some (seqObj "list" out c) → StrsAre out.toList ks → sortedS ks = true → ks.Nodup → (∀ k, k ∈ ks ↔ M k = true) → ks.length = n → Q (.ref p) s1) :
    wpAny (model P w) A (call (.builtin "sorted") [.ref a]) Q E s :=
  sg_sorted (fun out ks => StrsAre out.toList ks ∧ sortedS ks = true) R hh h64 (fun s1 L vs Fn gL l64 hv hF => by
    have hI : StrsAre vs (vs.map (skS P w).ky) := by
      clear gL l64 hF
      induction vs with
      | nil => exact .nil
      | cons v vs ih =>
        obtain ⟨k, t, rfl⟩ := hv _ List.mem_cons_self
        exact .cons k t (ih fun u hu => hv u (List.mem_cons_of_mem _ hu))
    refine list_sort_treeK strKind_oneLt gL hI.keysOf (fun v1 v2 rest e => keyKind_strs (by rw [← e]; exact hI)) l64 fun st hp hs => ?_
    obtain ⟨ks, a1, a2, a3⟩ := sorted_out_str hI hp hs
    exact hF _ ks ⟨a1, a3⟩ a2) fun s1 p out c ks k1 g1 o1 hz hc z1 nd mm hl => hQ s1 p out c ks k1 g1 o1 hz hc z1.1 z1.2 nd mm hl
end
/-! ### over the hand layer -/
section
variable {X : Cx}
/-- the set at a -/
def SgH {T : Type} [DecidableEq T] {P : Program} {w : World} (D : SKd P w T) (a : Addr) (M : T → Bool) (n : Nat) : HO := .ext fun h => Sg D h a M n
theorem sgH_new {T : Type} [DecidableEq T] {P : Program} {w : World} {D : SKd P w T} {H : Hp} {h : Heap} {a : Addr} {M : T → Bool} {n : Nat} (R : Sg D h a M n) : ObjOk P w H h a (SgH D a M n) := by
  have ⟨o, _, _, _, ho, _⟩ := R
  exact ⟨R, ⟨o, ho⟩, fun h1 h2 p k => Sg.keep p k⟩
theorem sgH_get {T : Type} [DecidableEq T] {D : SKd X.prog X.w T} {pins : List (Addr × Obj)} {σ : L2.St} {H : Hp} {s : Shared} {a : Addr} {M : T → Bool} {n : Nat} (I : Inv X pins σ H s) (ha : H a = some (SgH D a M n)) : Sg D s.heap a M n := (I.hok a _ ha).1
def rSetOfI (K : PySem.W.Frag) (P : Program) (w : World) : List V → Hp → VK → Prop := fun xs H Q => ∃ (l : Addr) (ns : List Int), xs = [.ref l] ∧ SqL K H l (ns.map V.int) ∧ ns.length < 64 ∧ ∀ a c, H a = none → c ≤ ns.length → Q (.ref a) (upd H a (SgH (skI P w) a (fun j => decide (j ∈ ns)) c))
def rSetOfS (K : PySem.W.Frag) (P : Program) (w : World) : List V → Hp → VK → Prop := fun xs H Q => ∃ (l : Addr) (ns : List Str), xs = [.ref l] ∧ SqL K H l (ns.map V.str) ∧ ns.length < 64 ∧ ∀ a c, H a = none → c ≤ ns.length → Q (.ref a) (upd H a (SgH (skS P w) a (fun j => decide (j ∈ ns)) c))
theorem ints_item {us : List Value} {ns : List Int} (h : IntsAre us ns) : us.length = ns.length ∧ ∀ (i : Nat) (v : Value), us[i]? = some v → ∃ k t, ns[i]? = some k ∧ v = .int k t := by
  refine ⟨IntsAre.length h, fun i v hv => ?_⟩
  induction h generalizing i with
  | nil => simp at hv
  | cons k t _ ih =>
    cases i with
    | zero => exact ⟨k, t, rfl, (Option.some.inj (by simpa using hv)).symm⟩
    | succ i => exact ih i (by simpa using hv)
theorem strs_item {us : List Value} {ns : List Str} (h : StrsAre us ns) : us.length = ns.length ∧ ∀ (i : Nat) (v : Value), us[i]? = some v → ∃ k t, ns[i]? = some k ∧ v = .str k t := by
  refine ⟨StrsAre.length h, fun i v hv => ?_⟩
  induction h generalizing i with
  | nil => simp at hv
  | cons k t _ ih =>
    cases i with
    | zero => exact ⟨k, t, rfl, (Option.some.inj (by simpa using hv)).symm⟩
    | succ i => exact ih i (by simpa using hv)
theorem inv_laid2 {pins : List (Addr × Obj)} {σ : L2.St} {H : Hp} {s s1 : Shared} {p : Addr} {o : HO} (I : Inv X pins σ H s) (k : ∀ b u, s.heap.get? b = some u → s1.heap.get? b = some u) (g : s1.gens = s.gens) (e : s1.os = s.os) (hp : s.heap.objs.size ≤ p) (new : ObjOk X.prog X.w (upd H p o) s1.heap p o) : Inv X pins σ (upd H p o) s1 := by
  obtain ⟨h1, g1, d1, t1, o1⟩ := s1
  have e1 : g1 = s.gens := g
  have e2 : o1 = s.os := e
  subst e1; subst e2
  exact I.call (ch := []) (Un.laid k hp (I.hok.fresh hp)) (I.hok.laid k hp new) I.bare (fun _ z => nomatch z)
theorem cr_setOfI (hc : X.calm = true) : CallR X (.type "set") (rSetOfI X.K X.prog X.w) := by
  intro pins s σ H xs us Q I r h
  obtain ⟨l, ns, rfl, hl, h64, q⟩ := h
  obtain ⟨its, rv, hl2, _⟩ := I.list hl
  rw [Vals.ref1 r]
  obtain ⟨i1, i2⟩ := ints_item rv.ints
  refine sg_call (D := skI X.prog X.w) (ks := ns) (I.ok.hd hc) hl2.isList ⟨by simpa using i1, fun i v hv => i2 i v (by simpa using hv)⟩ (Nat.lt_of_lt_of_le (show ns.length + 1 < 66 by omega) (by decide)) fun h1 tk c hS hc' hk => ?_
  exact ⟨.ref _, upd H s.heap.objs.size (SgH (skI X.prog X.w) s.heap.objs.size (fun j => decide (j ∈ ns)) c), I.laid (t' := tk) hk (Nat.le_refl _) (sgH_new hS), rfl, q _ c (I.hok.fresh (Nat.le_refl _)) hc'⟩
theorem cr_setOfS (hc : X.calm = true) : CallR X (.type "set") (rSetOfS X.K X.prog X.w) := by
  intro pins s σ H xs us Q I r h
  obtain ⟨l, ns, rfl, hl, h64, q⟩ := h
  obtain ⟨its, rv, hl2, _⟩ := I.list hl
  rw [Vals.ref1 r]
  obtain ⟨i1, i2⟩ := strs_item rv.strs
  refine sg_call (D := skS X.prog X.w) (ks := ns) (I.ok.hd hc) hl2.isList ⟨by simpa using i1, fun i v hv => i2 i v (by simpa using hv)⟩ (Nat.lt_of_lt_of_le (show ns.length + 1 < 66 by omega) (by decide)) fun h1 tk c hS hc' hk => ?_
  exact ⟨.ref _, upd H s.heap.objs.size (SgH (skS X.prog X.w) s.heap.objs.size (fun j => decide (j ∈ ns)) c), I.laid (t' := tk) hk (Nat.le_refl _) (sgH_new hS), rfl, q _ c (I.hok.fresh (Nat.le_refl _)) hc'⟩
def rSortedI2 (P : Program) (w : World) : List V → Hp → VK → Prop := fun vs H Q => ∃ (a : Addr) (M : Int → Bool) (n : Nat), vs = [.ref a] ∧ H a = some (SgH (skI P w) a M n) ∧ n < 64 ∧ ∀ (ks : List Int) (p : Addr), ks.Pairwise (· < ·) → (∀ k, k ∈ ks ↔ M k = true) → ks.length = n → H p = none → Q (.ref p) (upd H p (.lst (ks.map V.int)))
def rSortedS2 (P : Program) (w : World) : List V → Hp → VK → Prop := fun vs H Q => ∃ (a : Addr) (M : Str → Bool) (n : Nat), vs = [.ref a] ∧ H a = some (SgH (skS P w) a M n) ∧ n < 64 ∧ ∀ (ks : List Str) (p : Addr), sortedS ks = true → ks.Nodup → (∀ k, k ∈ ks ↔ M k = true) → ks.length = n → H p = none → Q (.ref p) (upd H p (.lst (ks.map V.str)))
theorem cr_sortedI2 (hc : X.calm = true) : CallR X (.builtin "sorted") (rSortedI2 X.prog X.w) := by
  intro pins s σ H vs us Q I r h
  obtain ⟨a, M, n, rfl, ha, h64, q⟩ := h
  rw [Vals.ref1 r]
  refine sorted_skI (sgH_get I ha) (I.ok.hd hc) h64 fun s1 p out c ks k g o hp hg hi hs mm hl => ?_
  have hlen : (ks.map V.int).length ≤ sizeLine := by rw [List.length_map, hl]; exact Nat.le_trans (Nat.le_of_lt h64) (by decide)
  exact ⟨.ref p, upd H p (.lst (ks.map V.int)), inv_laid2 I k g o hp ⟨hlen, out.toList, c, vals_of_ints hi, hg⟩, rfl, q ks p hs mm hl (I.hok.fresh hp)⟩
theorem cr_sortedS2 (hc : X.calm = true) : CallR X (.builtin "sorted") (rSortedS2 X.prog X.w) := by
  intro pins s σ H vs us Q I r h
  obtain ⟨a, M, n, rfl, ha, h64, q⟩ := h
  rw [Vals.ref1 r]
  refine sorted_skS (sgH_get I ha) (I.ok.hd hc) h64 fun s1 p out c ks k g o hp hg hi hs nd mm hl => ?_
  have hlen : (ks.map V.str).length ≤ sizeLine := by rw [List.length_map, hl]; exact Nat.le_trans (Nat.le_of_lt h64) (by decide)
  exact ⟨.ref p, upd H p (.lst (ks.map V.str)), inv_laid2 I k g o hp ⟨hlen, out.toList, c, vals_of_strs hi, hg⟩, rfl, q ks p hs nd mm hl (I.hok.fresh hp)⟩
end
end Kp


namespace Kp
open PySem PySem.Spec PyProof.Rows L2
theorem b_set : bootBuiltins "set" = some (.type "set") := by decide +kernel
section
variable {X : Cx} {w0 : Wl} {ss : SS}
/-- sorted(set(e)), whole numbers -/
theorem k_ssetI {e : Expr} {p1 p2 q1 q2 : Pos} {R : AV → Prop} (hc : X.calm = true) (hg1 : Gl X "sorted") (hm1 : X.mg "sorted" = none) (hg2 : Gl X "set") (hm2 : X.mg "set" = none)
    (h : KE X w0 e ss fun a => ∃ ns : List Int, a = .dat (.list (ns.map .int)) ∧ ns.length < 64 ∧ ∀ ks : List Int, ks.Pairwise (· < ·) → (∀ k, k ∈ ks ↔ k ∈ ns) → R (.dat (.list (ks.map .int))))
    (hs : starEach [e] X.env = (false, eval e X.env) :: starEach [] X.env := by rfl) (hs2 : starEach [.Call (.Name "set" p2) [e] [] q2] X.env = (false, eval (.Call (.Name "set" p2) [e] [] q2) X.env) :: starEach [] X.env := by rfl)
    (hp1 : (backTo q2 (starEach [] X.env)).any (·.1) = false := by rfl) (hp2 : (backTo q1 (starEach [] X.env)).any (·.1) = false := by rfl) :
    KE X w0 (.Call (.Name "sorted" p1) [.Call (.Name "set" p2) [e] [] q2] [] q1) ss R :=
  PE.imp (pe_callB (cr_sortedI2 hc) hg1 hm1 b_sorted (pa_cons (pe_callTy (cr_setOfI hc) hg2 hm2 b_set (pa_cons h pa_nil hs) (by decide) (by decide) hs hp1) pa_nil hs2) (by decide) (by decide) hs2 hp2) fun σ H Q ⟨w, ew, hsl, q⟩ => ⟨w, ew, hsl, fun v a w1 l1 hv hk => by
    obtain ⟨ns, rfl, h64, hr⟩ := hk
    cases hv with
    | lst g1 d1 =>
      rw [d1.ints] at g1
      refine ⟨_, ns, rfl, .inl (.inl (w1.sub _ _ g1)), h64, fun b c hb hc2 => ⟨b, _, c, rfl, upd_same, by omega, fun ks p hs mm hl hp => ?_⟩⟩
      let w2 := w1.own b (SgH (skI X.prog X.w) b (fun j => decide (j ∈ ns)) c) (w1.gfree hb)
      have hp2 : w2.h p = none := hp
      refine q (.ref p) (.dat (.list (ks.map .int))) (w2.put p (.lst (ks.map V.int))) (l1.trans ((Le.own hb).trans (Le.put hp2))) (.lst upd_same (DdA.ofInts ks)) (hr ks hs fun k => ?_)
      rw [mm k]
      exact decide_eq_true_iff⟩
/-- sorted(set(e)), texts -/
theorem k_ssetS {e : Expr} {p1 p2 q1 q2 : Pos} {R : AV → Prop} (hc : X.calm = true) (hg1 : Gl X "sorted") (hm1 : X.mg "sorted" = none) (hg2 : Gl X "set") (hm2 : X.mg "set" = none)
    (h : KE X w0 e ss fun a => ∃ ns : List Str, a = .dat (.list (ns.map .str)) ∧ ns.length < 64 ∧ ∀ ks : List Str, sortedS ks = true → ks.Nodup → (∀ k, k ∈ ks ↔ k ∈ ns) → R (.dat (.list (ks.map .str))))
    (hs : starEach [e] X.env = (false, eval e X.env) :: starEach [] X.env := by rfl) (hs2 : starEach [.Call (.Name "set" p2) [e] [] q2] X.env = (false, eval (.Call (.Name "set" p2) [e] [] q2) X.env) :: starEach [] X.env := by rfl)
    (hp1 : (backTo q2 (starEach [] X.env)).any (·.1) = false := by rfl) (hp2 : (backTo q1 (starEach [] X.env)).any (·.1) = false := by rfl) :
    KE X w0 (.Call (.Name "sorted" p1) [.Call (.Name "set" p2) [e] [] q2] [] q1) ss R :=
  PE.imp (pe_callB (cr_sortedS2 hc) hg1 hm1 b_sorted (pa_cons (pe_callTy (cr_setOfS hc) hg2 hm2 b_set (pa_cons h pa_nil hs) (by decide) (by decide) hs hp1) pa_nil hs2) (by decide) (by decide) hs2 hp2) fun σ H Q ⟨w, ew, hsl, q⟩ => ⟨w, ew, hsl, fun v a w1 l1 hv hk => by
    obtain ⟨ns, rfl, h64, hr⟩ := hk
    cases hv with
    | lst g1 d1 =>
      rw [d1.strs] at g1
      refine ⟨_, ns, rfl, .inl (.inl (w1.sub _ _ g1)), h64, fun b c hb hc2 => ⟨b, _, c, rfl, upd_same, by omega, fun ks p hs nd mm hl hp => ?_⟩⟩
      let w2 := w1.own b (SgH (skS X.prog X.w) b (fun j => decide (j ∈ ns)) c) (w1.gfree hb)
      have hp2 : w2.h p = none := hp
      refine q (.ref p) (.dat (.list (ks.map .str))) (w2.put p (.lst (ks.map V.str))) (l1.trans ((Le.own hb).trans (Le.put hp2))) (.lst upd_same (DdA.ofStrs ks)) (hr ks hs nd fun k => ?_)
      rw [mm k]
      exact decide_eq_true_iff⟩
/-- o.index(e) over data -/
theorem k_index {o e : Expr} {apos cpos : Pos} {R : AV → Prop} (hu : X.A.units + 65 < cLine)
    (h : KE X w0 o ss fun x => ∃ ds, x = .dat (.list ds) ∧ KE X w0 e ss fun y => ∃ d, y = .dat d ∧ noD (.list ds) = true ∧ noD d = true ∧ SeqAt.shaped (.list ds) = true ∧ SeqAt.shaped d = true ∧ ∃ (j : Nat) (z : PyData), ds[j]? = some z ∧ PyData.eqv z d = true ∧ (∀ (m : Nat) (z' : PyData), m < j → ds[m]? = some z' → PyData.eqv z' d = false) ∧ R (.dat (.int (j : Nat))))
    (hbase : attributeBase o "index" X.env (eval o X.env) = eval o X.env := by rfl)
    (hfew : ((backTo cpos (starEach [e] X.env)).all (fun x => !x.1) && (backToKw cpos (keywordEach [] X.env)).all (fun x => x.1.isSome) && decide (([e] : List Expr).length + ([] : List Keyword).length + (if ([] : List Keyword).isEmpty then 0 else 1) < 30)) = true := by rfl)
    (hline : (apos.endLine == cpos.line) = true := by rfl) (hs : starEach [e] X.env = (false, eval e X.env) :: starEach [] X.env := by rfl) (hplain : (backTo cpos (starEach [] X.env)).any (·.1) = false := by rfl) :
    KE X w0 (.Call (.Attribute o "index" apos) [e] [] cpos) ss R :=
  PE.imp (pe_bm PySem.F.plainAttrs_list PySem.F.slot_list_index PySem.F.type_list_index (mt_indexD hu) h (pa_cons (pe_an (w0 := w0) (ss := ss)) pa_nil hs) hbase hfew hline hs hplain) fun σ H Q ⟨w, ew, hsl, q⟩ => ⟨w, ew, hsl, fun v x w1 l1 hv hk => by
    obtain ⟨ds, rfl, hk⟩ := hk
    cases hv with
    | lst g1 d1 =>
      refine ⟨.inl ⟨rfl, _, .inl (.inl (w1.sub _ _ g1))⟩, _, hk, w1, rfl, hsl.mono l1, fun v2 y w2 l2 hv2 hy => ?_⟩
      obtain ⟨d, rfl, n1, n2, s1, s2, j, z, hz, e1, e2, hr⟩ := hy
      have D1 : Dd X.K w2.g _ (.list ds) := .lst (l2.g _ _ g1) (d1.mono l2.g)
      exact ⟨_, _, d, _, j, z, rfl, rfl, Dd.dp (Dd.mono w2.sub D1) n1, Dd.dp (Dd.mono w2.sub hv2) n2, s1, s2, hz, e1, e2, q (.int _) (.dat (.int _)) w2 (l1.trans l2) (.int _) hr⟩⟩
end
end Kp


namespace Kp
open PySem PySem.Spec PyProof.Rows L2
/-! ### lists of new lists in the store -/
structure LL (st : Store) (p : Addr) (dss : List (List PyData)) (qs : List Addr) : Prop where
  mp : (p, Ck.lst, qs.map AV.at_) ∈ st
  len : qs.length = dss.length
  mq : ∀ (j : Nat) (q : Addr) (ds : List PyData), qs[j]? = some q → dss[j]? = some ds → (q, Ck.lst, ds.map AV.dat) ∈ st
  nd : (p :: qs).Nodup
theorem splA_cells {st : Store} : ∀ {qs : List Addr} {dss : List (List PyData)}, qs.length = dss.length → (∀ (j : Nat) (q : Addr) (ds : List PyData), qs[j]? = some q → dss[j]? = some ds → (q, Ck.lst, ds.map AV.dat) ∈ st) → SplA st (qs.map .at_) (dss.map .list)
  | [], [], _, _ => .nil
  | [], _ :: _, h, _ => by cases h
  | _ :: _, [], h, _ => by cases h
  | q :: qs, d :: dss, h, k => .cons (.lst (k 0 q d rfl rfl) SplA.dats) (splA_cells (Nat.succ.inj h) fun j p ds e1 e2 => k (j + 1) p ds e1 e2)
theorem LL.spell {st : Store} {p : Addr} {dss : List (List PyData)} {qs : List Addr} (H : LL st p dss qs) : Spl st (.at_ p) (.list (dss.map .list)) := .lst H.mp (splA_cells H.len H.mq)
theorem LL.mono {st st' : Store} {p : Addr} {dss : List (List PyData)} {qs : List Addr} (H : LL st p dss qs) (h : ∀ x ∈ st, x ∈ st') : LL st' p dss qs := ⟨h _ H.mp, H.len, fun j q ds e1 e2 => h _ (H.mq j q ds e1 e2), H.nd⟩
theorem LL.ne {st : Store} {p : Addr} {dss : List (List PyData)} {qs : List Addr} (H : LL st p dss qs) {j : Nat} {q : Addr} (e : qs[j]? = some q) : q ≠ p := fun z => (List.nodup_cons.mp H.nd).1 (by rw [← z]; exact List.mem_of_getElem? e)
theorem LL.inj {st : Store} {p : Addr} {dss : List (List PyData)} {qs : List Addr} (H : LL st p dss qs) {i j : Nat} {q : Addr} (e1 : qs[i]? = some q) (e2 : qs[j]? = some q) : i = j :=
  (List.getElem?_inj (List.getElem?_eq_some_iff.mp e1).1 (List.nodup_cons.mp H.nd).2).mp (by rw [e1, e2])
/-- the i-th of them is stored anew -/
theorem LL.put {st : Store} {p : Addr} {dss : List (List PyData)} {qs : List Addr} (H : LL st p dss qs) {i : Nat} {q : Addr} {l : List PyData} (hq : qs[i]? = some q) (hl : dss[i]? = some l) (l' : List PyData) : LL (stSet st q (l'.map .dat)) p (dss.set i l') qs := by
  refine ⟨stSet_ne H.mp (H.ne hq).symm, by rw [H.len, List.length_set], fun j r ds e1 e2 => ?_, H.nd⟩
  by_cases hj : j = i
  · subst hj
    rw [hq] at e1
    cases e1
    rw [List.getElem?_set_self (by rw [← H.len]; exact (List.getElem?_eq_some_iff.mp hq).1)] at e2
    cases e2
    exact stSet_at (H.mq j q l hq hl)
  · rw [List.getElem?_set_ne (Ne.symm hj)] at e2
    exact stSet_ne (H.mq j r ds e1 e2) fun e => hj (H.inj e1 (by rw [hq, e]))
theorem LL.at {st : Store} {p : Addr} {dss : List (List PyData)} {qs : List Addr} (H : LL st p dss qs) {i : Nat} {l : List PyData} (hl : dss[i]? = some l) : ∃ q, qs[i]? = some q ∧ (q, Ck.lst, l.map AV.dat) ∈ st := by
  have hi : i < qs.length := by
    rw [H.len]
    exact (List.getElem?_eq_some_iff.mp hl).1
  exact ⟨qs[i], by simp [hi], H.mq i _ l (by simp [hi]) hl⟩
section
variable {X : Cx} {w0 : Wl} {ss : SS} {st : Store} {pos : Pos}
abbrev BNw (X : Cx) (w0 : Wl) (scope : Scope) (e : Expr) (ss : SS) (R : List PyData → Prop) : Prop := ∀ (s : Shared) (H : Hp) (C : Addr) (cl : List (Str × Addr)) (fp : List Addr), KN (X.blk s H scope (compEnvC scope cl C X.env) fp) w0 e ss R
/-- [a new list for ..]: what is asked of what is walked -/
abbrev lcLS (X : Cx) (w0 : Wl) (st : Store) (ss : SS) (scope : Scope) (elt : Expr) (ifs : List Expr) (vs : List Nat) (T : PyData → SS → (SS → Prop) → Prop) (R : Store → AV → Prop) : List PyData → Prop := fun ds =>
  ds.length ≤ 50000 ∧ ∃ P : Nat → List (List PyData) → Prop, P 0 [] ∧
    (∀ i d st' acc, ds[i]? = some d → (∀ x ∈ st, x ∈ st') → P i acc → T d (wipeS ss vs) fun ss' => testM X w0 scope ifs st' ss' (BNw X (w0.at st') scope elt ss' fun es => P (i + 1) (acc ++ [es])) (P (i + 1) acc)) ∧
    ∀ dss, P ds.length dss → ∀ st' p qs, LL st' p dss qs → (∀ x ∈ st, x ∈ st') → (∀ q ∈ p :: qs, Fresh st q) → R st' (.at_ p)
theorem lcLS.lcM {scope : Scope} {elt : Expr} {ifs : List Expr} {vs : List Nat} {T : PyData → SS → (SS → Prop) → Prop} {R : Store → AV → Prop} {ds : List PyData} (hT : ∀ d ss (P Q : SS → Prop), (∀ ss, P ss → Q ss) → T d ss P → T d ss Q) (h : lcLS X w0 st ss scope elt ifs vs T R ds) : lcMS X w0 st ss scope elt ifs vs T R ds := by
  obtain ⟨hz, P, p0, pt, pe⟩ := h
  refine ⟨hz, fun D i st' acc => ∃ (dss : List (List PyData)) (qs : List Addr), acc = qs.map AV.at_ ∧ P i dss ∧ (∀ x ∈ st, x ∈ st') ∧ qs.length = dss.length ∧ (∀ (j : Nat) (q : Addr) (es : List PyData), qs[j]? = some q → dss[j]? = some es → (q, Ck.lst, es.map AV.dat) ∈ st') ∧ (D :: qs).Nodup ∧ (∀ q ∈ D :: qs, Fresh st q),
    fun D fD => ⟨[], [], rfl, p0, fun x hx => List.mem_cons_of_mem _ hx, rfl, fun j q es e => (by simp at e), List.nodup_cons.mpr ⟨List.not_mem_nil, List.nodup_nil⟩, fun q hq => by rw [List.mem_singleton.mp hq]; exact fD⟩, fun D i d st' acc hd mD hI => ?_, fun D st' acc mD hI => ?_⟩
  · obtain ⟨dss, qs, rfl, hP, hst, hl, hm, hnd, hfr⟩ := hI
    refine hT d _ _ _ (fun ss' k => ?_) (pt i d st' dss hd hst hP)
    have yes : BNw X (w0.at st') scope elt ss' (fun es => P (i + 1) (dss ++ [es])) → BM X w0 scope elt st' ss' (fun st2 a => onPlain a fun a => (D, Ck.lst, qs.map AV.at_) ∈ st2 ∧ ∃ (dss' : List (List PyData)) (qs' : List Addr), qs.map AV.at_ ++ [a] = qs'.map AV.at_ ∧ P (i + 1) dss' ∧ (∀ x ∈ st, x ∈ stSet st2 D (qs.map AV.at_ ++ [a])) ∧ qs'.length = dss'.length ∧ (∀ (j : Nat) (q : Addr) (es : List PyData), qs'[j]? = some q → dss'[j]? = some es → (q, Ck.lst, es.map AV.dat) ∈ stSet st2 D (qs.map AV.at_ ++ [a])) ∧ (D :: qs').Nodup ∧ (∀ q ∈ D :: qs', Fresh st q)) := fun hb s H C cl fp => by
      refine me_new (b := .lst) (PE.imp (hb s H C cl fp) fun σ H Q ⟨w, ew, hs, q⟩ => ⟨w, ew, hs, fun p vs es w' l hn h1 h2 hd2 hr => q p vs (es.map .dat) w' l hn h1 h2 (AvA.ofDd hd2) plain_dats (fun p fp => ?_)⟩)
      have nD : p ≠ D := fun e => fp _ mD e.symm
      have nq : ∀ q ∈ qs, q ≠ p := fun q m e => by
        obtain ⟨j, hj⟩ := List.mem_iff_getElem?.mp m
        have hjl : j < dss.length := by rw [← hl]; exact (List.getElem?_eq_some_iff.mp hj).1
        exact fp _ (hm j q dss[j] hj (by simp [hjl])) e
      refine ⟨List.mem_cons_of_mem _ mD, dss ++ [es], qs ++ [p], by rw [List.map_append]; rfl, hr, fun x hx => ?_, by rw [List.length_append, List.length_append, hl]; rfl, fun j q es' e1 e2 => ?_, ?_, fun q hq => ?_⟩
      · obtain ⟨x1, x2, x3⟩ := x
        exact stSet_ne (List.mem_cons_of_mem _ (hst _ hx)) fun e => hfr D List.mem_cons_self _ hx e
      · by_cases hj : j < qs.length
        · rw [List.getElem?_append_left hj] at e1
          rw [List.getElem?_append_left (by omega)] at e2
          refine stSet_ne (List.mem_cons_of_mem _ (hm j q es' e1 e2)) fun e => (List.nodup_cons.mp hnd).1 (by rw [← e]; exact List.mem_of_getElem? e1)
        · rw [List.getElem?_append_right (by omega)] at e1
          rw [List.getElem?_append_right (by omega)] at e2
          have ej : j = qs.length := by
            have := (List.getElem?_eq_some_iff.mp e1).1
            rw [List.length_singleton] at this
            omega
          rw [ej, Nat.sub_self] at e1
          rw [ej, hl, Nat.sub_self] at e2
          cases e1
          cases e2
          exact stSet_ne List.mem_cons_self nD
      · obtain ⟨n1, n2⟩ := List.nodup_cons.mp hnd
        refine List.nodup_cons.mpr ⟨fun m => ?_, List.nodup_append.mpr ⟨n2, List.nodup_cons.mpr ⟨List.not_mem_nil, List.nodup_nil⟩, fun a ha b hb e => ?_⟩⟩
        · rcases List.mem_append.mp m with m | m
          · exact n1 m
          · exact nD (List.mem_singleton.mp m).symm
        · rw [List.mem_singleton.mp hb] at e
          exact nq a ha e
      · rcases List.mem_cons.mp hq with e | hq
        · rw [e]; exact hfr D List.mem_cons_self
        · rcases List.mem_append.mp hq with m | m
          · exact hfr q (List.mem_cons_of_mem _ m)
          · rw [List.mem_singleton.mp m]
            exact fun x hx e => fp x (hst x hx) e
    have no : P (i + 1) dss → ∃ (dss' : List (List PyData)) (qs' : List Addr), qs.map AV.at_ = qs'.map AV.at_ ∧ P (i + 1) dss' ∧ (∀ x ∈ st, x ∈ st') ∧ qs'.length = dss'.length ∧ (∀ (j : Nat) (q : Addr) (es : List PyData), qs'[j]? = some q → dss'[j]? = some es → (q, Ck.lst, es.map AV.dat) ∈ st') ∧ (D :: qs').Nodup ∧ (∀ q ∈ D :: qs', Fresh st q) := fun hP => ⟨dss, qs, rfl, hP, hst, hl, hm, hnd, hfr⟩
    unfold testM at k ⊢
    split at k
    · exact yes k
    · exact fun s H C cl fp => KT.weak (k s H C cl fp) fun b hb => by
        cases b
        · exact no hb
        · exact yes hb
    · exact k.elim
  · obtain ⟨dss, qs, rfl, hP, hst, hl, hm, hnd, hfr⟩ := hI
    exact pe dss hP st' D qs ⟨mD, hl, hm, hnd⟩ hst hfr
theorem tg1_weak (j : Nat) : ∀ d ss (P Q : SS → Prop), (∀ ss, P ss → Q ss) → tg1 j d ss P → tg1 j d ss Q := fun d ss P Q h k => h _ k
theorem tg2_weak (j k : Nat) : ∀ d ss (P Q : SS → Prop), (∀ ss, P ss → Q ss) → tg2 j k d ss P → tg2 j k d ss Q := fun d ss P Q h q => by
  unfold tg2 at q ⊢
  split at q
  · exact h _ q
  · exact q.elim
theorem me_lcL {tg elt iter : Expr} {ifs : List Expr} {scope : Scope} {own : List (Str × Nat)} {g : TG} {T : PyData → SS → (SS → Prop) → Prop} {R : Store → AV → Prop} (hc : X.calm = true) (hN : X.N.Nodup) (hb : nbS ss = true) (ok : BlkOk X.N X.env.scope scope own)
    (hT : ∀ st, TgOk X.K (w0.at st) g T (own.map (·.2))) (hTw : ∀ d ss (P Q : SS → Prop), (∀ ss, P ss → Q ss) → T d ss P → T d ss Q)
    (hg : ∀ (s : Shared) (H : Hp) (C : Addr) (cl : List (Str × Addr)) (fp : List Addr), PG (X.blk s H scope (compEnvC scope cl C X.env) fp) tg g)
    (h : KI X (w0.at st) tg iter ss (lcLS X w0 st ss scope elt ifs (own.map (·.2)) T R))
    (hs : ∀ x, foldedSetIterable iter X.env x = pure x := by intro _; rfl) : ME X w0 (.ListComp elt [⟨tg, iter, ifs, 0⟩] scope pos) st ss R :=
  me_lcM hc hN hb ok hT hg (PI.imp h fun σ H RR ⟨w, ew, hs, q⟩ => ⟨w, ew, hs, fun J ds w1 l1 wk hk => q J ds w1 l1 wk (lcLS.lcM hTw hk)⟩) hs
theorem m_setLcL (j : Nat) {x : Str} {px spos : Pos} {tg elt iter : Expr} {ifs : List Expr} {scope : Scope} {own : List (Str × Nat)} {g : TG} {T : PyData → SS → (SS → Prop) → Prop} {N : MN} (hc : X.calm = true) (hN : X.N.Nodup) (hb : nbS ss = true) (hy : X.N[j]? = some x) (hyl : X.env.scope.names.lookup x = some .local) (ok : BlkOk X.N X.env.scope scope own)
    (hT : ∀ st, TgOk X.K (w0.at st) g T (own.map (·.2))) (hTw : ∀ d ss (P Q : SS → Prop), (∀ ss, P ss → Q ss) → T d ss P → T d ss Q)
    (hg : ∀ (s : Shared) (H : Hp) (C : Addr) (cl : List (Str × Addr)) (fp : List Addr), PG (X.blk s H scope (compEnvC scope cl C X.env) fp) tg g)
    (h : KI X (w0.at st) tg iter ss (lcLS X w0 st ss scope elt ifs (own.map (·.2)) T fun st' a => onPlain a fun a => N.nx st' (ss.set j (some a))))
    (hsw : swapsWith (.ListComp elt [⟨tg, iter, ifs, 0⟩] scope pos) (some (.Name x px)) spos.line X.env = pure true := by rfl) (hs : ∀ x, foldedSetIterable iter X.env x = pure x := by intro _; rfl) : MS X w0 (.Assign [.Name x px] (.ListComp elt [⟨tg, iter, ifs, 0⟩] scope pos) spos) st ss N :=
  m_setLcM j hc hN hb hy hyl ok hT hg (PI.imp h fun σ H RR ⟨w, ew, hs, q⟩ => ⟨w, ew, hs, fun J ds w1 l1 wk hk => q J ds w1 l1 wk (lcLS.lcM hTw hk)⟩) hsw hs
end
end Kp


namespace Kp
open PySem PySem.Spec PyProof.Rows L2
/-! ### data without truths and dicts: alike just where they are the same -/
mutual
def pureD : PyData → Bool
  | .none => true
  | .int _ => true
  | .str _ => true
  | .list xs => pureA xs
  | .tuple xs => pureA xs
  | _ => false
def pureA : List PyData → Bool
  | [] => true
  | d :: ds => pureD d && pureA ds
end
theorem pureA_of : ∀ {ds : List PyData}, (∀ d ∈ ds, pureD d = true) → pureA ds = true
  | [], _ => rfl
  | d :: ds, h => by
    show (pureD d && pureA ds) = true
    rw [h d List.mem_cons_self, pureA_of fun x hx => h x (List.mem_cons_of_mem _ hx)]
    rfl
theorem pureA_mem : ∀ {ds : List PyData}, pureA ds = true → ∀ d ∈ ds, pureD d = true
  | d :: ds, h, x, hx => by
    have h : (pureD d && pureA ds) = true := h
    rw [Bool.and_eq_true] at h
    rcases List.mem_cons.mp hx with e | m
    · rw [e]; exact h.1
    · exact pureA_mem h.2 x m
mutual
theorem pure_noD : ∀ {d : PyData}, pureD d = true → noD d = true
  | .none, _ => rfl
  | .int _, _ => rfl
  | .str _, _ => rfl
  | .list xs, h => pureA_noDA (ds := xs) h
  | .tuple xs, h => pureA_noDA (ds := xs) h
  | .bool _, h => by cases h
  | .dict _, h => by cases h
theorem pureA_noDA : ∀ {ds : List PyData}, pureA ds = true → noDA ds = true
  | [], _ => rfl
  | d :: ds, h => by
    have h : (pureD d && pureA ds) = true := h
    rw [Bool.and_eq_true] at h
    show (noD d && noDA ds) = true
    rw [pure_noD h.1, pureA_noDA h.2]
    rfl
end
mutual
theorem eqv_pure : ∀ {d e : PyData}, pureD d = true → pureD e = true → (PyData.eqv d e = true ↔ d = e)
  | .none, e, _, he => by
    cases e <;> first | (cases he; done) | (simp [PyData.eqv]; done)
  | .int i, e, _, he => by
    cases e <;> first | (cases he; done) | (simp [PyData.eqv]; done)
  | .str z, e, _, he => by
    cases e <;> first | (cases he; done) | (simp [PyData.eqv]; done)
  | .list xs, e, hd, he => by
    cases e with
    | list ys =>
      have := eqv_pureA (xs := xs) (ys := ys) hd he
      simp only [PyData.eqv, PyData.list.injEq]
      exact this
    | _ => first | (cases he; done) | (simp [PyData.eqv]; done)
  | .tuple xs, e, hd, he => by
    cases e with
    | tuple ys =>
      have := eqv_pureA (xs := xs) (ys := ys) hd he
      simp only [PyData.eqv, PyData.tuple.injEq]
      exact this
    | _ => first | (cases he; done) | (simp [PyData.eqv]; done)
  | .bool _, _, hd, _ => by cases hd
  | .dict _, _, hd, _ => by cases hd
theorem eqv_pureA : ∀ {xs ys : List PyData}, pureA xs = true → pureA ys = true → (PyData.eqvAll xs ys = true ↔ xs = ys)
  | [], [], _, _ => by simp [PyData.eqvAll]
  | [], y :: ys, _, _ => by simp [PyData.eqvAll]
  | x :: xs, [], _, _ => by simp [PyData.eqvAll]
  | x :: xs, y :: ys, hx, hy => by
    have hx : (pureD x && pureA xs) = true := hx
    have hy : (pureD y && pureA ys) = true := hy
    rw [Bool.and_eq_true] at hx hy
    have h1 := eqv_pure hx.1 hy.1
    have h2 := eqv_pureA hx.2 hy.2
    rw [PyData.eqvAll, Bool.and_eq_true, h1, h2, List.cons.injEq]
end
theorem eqv_dec {d e : PyData} [Decidable (d = e)] (hd : pureD d = true) (he : pureD e = true) : PyData.eqv d e = decide (d = e) := by
  by_cases h : d = e
  · rw [decide_eq_true h]
    exact (eqv_pure hd he).2 h
  · rw [decide_eq_false h]
    cases q : PyData.eqv d e with
    | false => rfl
    | true => exact absurd ((eqv_pure hd he).1 q) h
theorem eqv_self {d : PyData} (hd : pureD d = true) : PyData.eqv d d = true := (eqv_pure hd hd).2 rfl
theorem shapedS {n : Nat} {d : PyData} (hn : n ≤ 10) (h : sm n d = true) (q : noD d = true) : SeqAt.shaped d = true := by
  have hd := (sm_ok n d h).2.1
  unfold SeqAt.shaped
  rw [sm_lay n d h q, Bool.true_and]
  exact decide_eq_true (by omega)
/-- what can be compared, and is alike just where it is the same -/
def Cm (d : PyData) : Prop := pureD d = true ∧ SeqAt.shaped d = true
theorem Cm.noD {d : PyData} (h : Cm d) : noD d = true := pure_noD h.1
theorem Cm.of {n : Nat} {d : PyData} (hn : n ≤ 10) (h : sm n d = true) (q : pureD d = true) : Cm d := ⟨q, shapedS hn h (pure_noD q)⟩
theorem Cm.int (i : Int) : Cm (.int i) := ⟨rfl, by unfold SeqAt.shaped; simp [PyData.canLay0, PyData.depth]⟩
theorem Cm.non : Cm .none := ⟨rfl, by unfold SeqAt.shaped; simp [PyData.canLay0, PyData.depth]⟩
/-- x == y for such -/
theorem Cm.eqS {x y : PyData} {R : Bool → Prop} [Decidable (x = y)] (hx : Cm x) (hy : Cm y) (h : R (decide (x = y))) : Kp.eqS (.dat x) (.dat y) R := ⟨hx.noD, hy.noD, hx.2, hy.2, by rw [eqv_dec hx.1 hy.1]; exact h⟩
theorem Cm.neS {x y : PyData} {R : Bool → Prop} [Decidable (x = y)] (hx : Cm x) (hy : Cm y) (h : R (!decide (x = y))) : Kp.neS (.dat x) (.dat y) R := ⟨hx.noD, hy.noD, hx.2, hy.2, by rw [eqv_dec hx.1 hy.1]; exact h⟩
end Kp


namespace Kp
open PySem PySem.Spec PyProof.Rows L2
theorem _root_.L2.Room.u65 {k : Nat} {A : Around} (r : Room k A) : A.units + 65 < cLine := by have := r.un; omega
theorem lookup_relab {env : Env} {k : NameKind} {x : Str} : ∀ {ns : List (Str × NameKind)}, ns.lookup x = some k → (k = .cell ∨ k = .free) →
    (ns.map fun (n, k) => if (k == NameKind.free && env.scope.kind == .function && env.kindOf n == some .cell) then (n, NameKind.cell) else (n, k)).lookup x = some .cell ∨ (ns.map fun (n, k) => if (k == NameKind.free && env.scope.kind == .function && env.kindOf n == some .cell) then (n, NameKind.cell) else (n, k)).lookup x = some .free
  | [], h, _ => by cases h
  | (n, j) :: ns, h, hk => by
    rw [List.map_cons]
    by_cases e : x = n
    · subst e
      rw [List.lookup_cons_self] at h
      cases h
      dsimp only
      split
      · exact .inl List.lookup_cons_self
      · rcases hk with rfl | rfl
        · exact .inl List.lookup_cons_self
        · exact .inr List.lookup_cons_self
    · have ne : (x == n) = false := by simpa using e
      rw [List.lookup_cons, ne] at h
      have ih := lookup_relab (env := env) (ns := ns) h hk
      dsimp only
      split
      · rw [List.lookup_cons, ne]; exact ih
      · rw [List.lookup_cons, ne]; exact ih
/-- a comprehension within a comprehension -/
theorem _root_.L2.BlkOk.relab {N : List Str} {sc scope : Scope} {own : List (Str × Nat)} {env : Env} (h : BlkOk N sc scope own) : BlkOk N (relabel sc env) scope own :=
  ⟨h.kind, h.uniq, h.ix, fun y hy e => by
    rcases h.free y hy e with q | q
    · exact lookup_relab q (.inl rfl)
    · exact lookup_relab q (.inr rfl), h.own⟩
section
variable {X : Cx} {w0 : Wl} {ss : SS} {pos : Pos} {tg : Expr}
/-- a name is set to a comprehension on its line, that is leant on at once -/
theorem ks_setLcD (j : Nat) {x : Str} {px spos : Pos} {elt iter : Expr} {ifs : List Expr} {scope : Scope} {own : List (Str × Nat)} {g : TG} {T : PyData → SS → (SS → Prop) → Prop} {N : AN} (hc : X.calm = true) (hN : X.N.Nodup) (hy : X.N[j]? = some x) (hyl : X.env.scope.names.lookup x = some .local) (ok : BlkOk X.N X.env.scope scope own)
    (hT : TgOk X.K w0 g T (own.map (·.2)))
    (hg : ∀ (s : Shared) (H : Hp) (C : Addr) (cl : List (Str × Addr)) (fp : List Addr), PG (X.blk s H scope (compEnvC scope cl C X.env) fp) tg g)
    (h : KI X w0 tg iter ss fun ds => ds.length ≤ 50000 ∧ ∃ P : Nat → List PyData → Prop, P 0 [] ∧
      (∀ i d acc, ds[i]? = some d → P i acc → T d (wipeS ss (own.map (·.2))) fun ss' => testS X w0 scope ifs ss' (BE X w0 scope elt ss' fun e => onDat e fun e => P (i + 1) (acc ++ [e])) (P (i + 1) acc)) ∧ ∀ es, P ds.length es → N.nx (ss.set j (some (.dat (.list es)))))
    (hsw : swapsWith (.ListComp elt [⟨tg, iter, ifs, 0⟩] scope pos) (some (.Name x px)) spos.line X.env = pure true := by rfl) (hs : ∀ x, foldedSetIterable iter X.env x = pure x := by intro _; rfl) : KS X w0 (.Assign [.Name x px] (.ListComp elt [⟨tg, iter, ifs, 0⟩] scope pos) spos) ss N :=
  PS.imp (ps_setLc hc hN hy hyl hsw h ok hg (pts_S (w0 := w0)) (te := anBE X w0 scope elt) (fun s H C cl fp => ⟨fun pins s' σ H' Q I ⟨_, _, hh, q⟩ => (hh s H C cl fp).run pins s' σ H' Q I q⟩) hs) fun D σ H ⟨w, ew, hsl, d⟩ =>
    lcK (R := fun es => N.nx (ss.set j (some (.dat (.list es))))) hT σ H _ ⟨w, ew, hsl, fun p vs ds w1 l1 hn h1 h2 hd hk => by
      have sub : Ex (upd w1.g p (.lst vs)) w1.h := fun a u e => by
        by_cases z : a = p
        · subst z
          rw [upd_same] at e
          cases e
          exact h1
        · rw [upd_ne z] at e
          exact w1.sub a u e
      have eg : Ex w1.g (upd w1.g p (.lst vs)) := Ex.new h2
      have l2 : Le w ⟨upd w1.g p (.lst vs), w1.h, sub, w1.st⟩ := ⟨l1.g.trans eg, l1.h, fun b b1 b2 => by
        have z : b ≠ p := fun z => b1 (by rw [z]; exact hn)
        show upd w1.g p (.lst vs) b = none
        rw [upd_ne z]
        exact l1.hid b b1 b2⟩
      exact d.nx _ _ ⟨upd w1.g p (.lst vs), w1.h, sub, w1.st⟩ l2.g ((hsl.mono l2).set (a := .dat (.list ds)) j rfl (.lst upd_same (hd.mono eg))) hk⟩
end
end Kp


namespace Kp
open PySem PySem.Spec PyProof.Rows L2
section
variable {K : PySem.W.Frag} {w0 w : Wl} {σ : L2.St} {ss : SS} {st : Store}
/-- the store is forgotten -/
theorem Sl.forget (h : Sl K (w0.at st) w σ ss) : Sl K (w0.at []) w σ ss := ⟨⟨h.le.g, h.le.h, h.le.hid⟩, h.len, h.at_, h.ap, h.fr, ⟨fun p b as m => absurd m List.not_mem_nil, List.nodup_nil⟩, fun i ds p e1 e2 b as m => absurd m List.not_mem_nil⟩
end
section
variable {X : Cx} {w0 : Wl} {ss : SS} {st : Store}
theorem m_clear {sts : List Stmt} {N : MN} (h : MSs X w0 sts [] ss N) : MSs X w0 sts st ss N := PSs.imp h fun D σ H ⟨w, ew, hs, d⟩ => ⟨w, ew, hs.forget, d⟩
/-- statements with a store of their own -/
theorem ks_ofM {sts : List Stmt} {N : AN} (nb : noBuf ss) (h : ∀ w1 : Wl, MSs X w1 sts [] ss { nx := fun _ ss' => N.nx ss', rt := fun _ a => N.rt a, bk := fun _ ss' => N.bk ss', ct := fun _ ss' => N.ct ss' }) : KSs X w0 sts ss N :=
  ⟨fun pins s σ H D I ⟨w, ew, hs, d⟩ => (h w.bare).run pins s σ H D I ⟨w, ew, hs.re nb, ⟨fun σ' ss' st' w' e hs' k => d.nx σ' ss' w' e (hs.back (Sl.forget hs')) k, fun v a st' w' e l o ha k => d.rt v a w' e (hs.le.trans l.unbare) ha k, fun σ' ss' st' w' e hs' k => d.bk σ' ss' w' e (hs.back (Sl.forget hs')) k, fun σ' ss' st' w' e hs' k => d.ct σ' ss' w' e (hs.back (Sl.forget hs')) k⟩⟩⟩
theorem noBuf.of (h : nbS ss = true) : noBuf ss := fun i ds e => nbS.not h e
/-- is not, of an error -/
abbrev isntES (x y : AV) (R : Bool → Prop) : Prop := match x, y with
  | .err _ _, .dat .none => R true
  | _, _ => False
theorem dc_isntE : DCmp X .IsNot isntES := ⟨_, op_notN, fun x y R hy vx vy w Q ax ay q => by
  unfold isntES at hy
  split at hy
  · obtain ⟨p, dd, fs, rfl, h1, h2, h3⟩ := ax
    cases ay
    refine ⟨rfl, ?_⟩
    rw [show decide ((V.ref p) = .non) = false from decide_eq_false (fun z => nomatch z)]
    exact go q (.bl true) hy
  · exact hy.elim⟩
end
end Kp


namespace Kp
open PySem PySem.Spec PyProof.Rows L2
/-! ### all of the store is leant on, from here -/
section
variable {X : Cx} {w0 : Wl} {ss ss' : SS} {st : Store}
theorem m_frzG {sts : List Stmt} {N : MN} {ssF : SS} (hF : ∀ w σ, Sl X.K (w0.at st) w σ ss → Sl X.K w0.bare (w.frz st) σ ssF) (h : KSs X w0.bare sts ssF { nx := N.nx [], rt := N.rt [], bk := N.bk [], ct := N.ct [] }) : MSs X w0 sts st ss N :=
  PSs.imp h fun D σ H ⟨w, ew, hs, d⟩ => ⟨w.frz st, ew, hF w σ hs, ⟨fun σ' ss' w' e hs' k => d.nx σ' ss' [] w' (hs.so.frz_g.trans e) hs' k, fun v a w' e l ha k => d.rt v a [] w' (hs.so.frz_g.trans e) ⟨l.g, l.h, l.hid⟩ ⟨fun p b as m => absurd m List.not_mem_nil, List.nodup_nil⟩ ha k, fun σ' ss' w' e hs' k => d.bk σ' ss' [] w' (hs.so.frz_g.trans e) hs' k, fun σ' ss' w' e hs' k => d.ct σ' ss' [] w' (hs.so.frz_g.trans e) hs' k⟩⟩
theorem m_frz {sts : List Stmt} {N : MN} (T : Thaw st ss ss') (h : KSs X w0.bare sts ss' { nx := N.nx [], rt := N.rt [], bk := N.bk [], ct := N.ct [] }) : MSs X w0 sts st ss N := m_frzG (fun w σ hs => hs.thaw T) h
/-- one of the slots is a dict of numbers by texts -/
theorem m_frzR (i : Nat) {p : Addr} {m : List (Str × Int)} {sts : List Stmt} {N : MN} (T : Thaw st ss ss') (hi : ss[i]? = some (some (.at_ p))) (mm : (p, Ck.dct m, []) ∈ st) (hi' : ss'[i]? = some (some (.at_ p))) (h : KSs X w0.bare sts (ss'.set i (some (.reg m))) { nx := N.nx [], rt := N.rt [], bk := N.bk [], ct := N.ct [] }) : MSs X w0 sts st ss N := m_frzG (fun w σ hs => hs.thawR T hi mm hi') h
end
end Kp


namespace Kp
open PySem PySem.Spec PyProof.Rows L2
/-! ### instances: as values, and in the store -/
section
variable {X : Cx} {w0 : Wl} {ss : SS} {st : Store} {o : Expr} {pos : Pos}
def anK (X : Cx) (w0 : Wl) (e : Expr) : TE := fun σ H Q => ∃ st ss R, KE X (w0.at st) e ss R ∧ teOf X.K (w0.at st) ss R σ H Q
theorem pe_anK {e : Expr} : PE X e (anK X w0 e) := ⟨fun pins s σ H Q I ⟨_, _, _, h, q⟩ => h.run pins s σ H Q I q⟩
theorem lookup_none {H : Hp} {K : PySem.W.Frag} {m : Str} : ∀ {fs : List (Str × V)} {ds : List (Str × PyData)}, FdA K H fs ds → ds.lookup m = none → fs.lookup m = none
  | [], _, _, _ => rfl
  | _ :: _, [], h, _ => by cases h.1
  | (k, v) :: fs, (k2, d2) :: ds, h, e => by
    have h1 := h.1
    have h2 := h.2
    rw [List.map_cons, List.map_cons] at h1 h2
    obtain ⟨e1, e2⟩ := List.cons.inj h1
    cases h2 with
    | cons a t =>
      have e1 : k = k2 := e1
      subst e1
      rw [List.lookup_cons] at e ⊢
      cases q : (m == k) with
      | true => rw [q] at e; cases e
      | false =>
        rw [q] at e
        exact lookup_none ⟨e2, t⟩ e
/-- o.f of an instance that is a value -/
theorem k_fld {f : Str} {R : AV → Prop} (h : KE X w0 o ss fun x => ∃ C ds d, x = .ins C ds ∧ Cls X.K C ∧ NoAttr X.K C f ∧ ds.lookup f = some d ∧ R (.dat d)) (hb : attributeBase o f X.env (eval o X.env) = eval o X.env := by rfl) : KE X w0 (.Attribute o f pos) ss R :=
  PE.imp (pe_fld h hb) fun σ H Q ⟨w, ew, hs, q⟩ => ⟨w, ew, hs, fun v x w1 l1 hv hk => by
    obtain ⟨C, ds, d, rfl, c, n, e, hr⟩ := hk
    obtain ⟨a, dx, fs, rfl, h1, h2⟩ := hv
    obtain ⟨u, e1, e2⟩ := lookup_dd h2 e
    exact ⟨a, C, dx, fs, u, rfl, w1.sub _ _ h1, c, n, e1, q u (.dat d) w1 l1 e2 hr⟩⟩
/-- what stands at p in the store is now this -/
def stRep (st : Store) (p : Addr) (b : Ck) (as : List AV) : Store := st.map fun x => if x.1 = p then (p, b, as) else x
theorem stRep_keys (st : Store) (p : Addr) (b : Ck) (as : List AV) : (stRep st p b as).map (·.1) = st.map (·.1) := by
  unfold stRep
  rw [List.map_map]
  refine List.map_congr_left fun x _ => ?_
  show (if x.1 = p then (p, b, as) else x).1 = x.1
  split
  · rename_i h; exact h.symm
  · rfl
theorem stRep_at {st : Store} {p : Addr} {bs as : List AV} {b c : Ck} (h : (p, c, bs) ∈ st) : (p, b, as) ∈ stRep st p b as := List.mem_map.mpr ⟨_, h, if_pos rfl⟩
theorem stRep_ne {st : Store} {p q : Addr} {bs as : List AV} {b c : Ck} (h : (q, c, bs) ∈ st) (ne : q ≠ p) : (q, c, bs) ∈ stRep st p b as := List.mem_map.mpr ⟨_, h, if_neg ne⟩
theorem mem_stRep {st : Store} {p q : Addr} {bs as : List AV} {b c : Ck} (h : (q, c, bs) ∈ stRep st p b as) : (q = p ∧ c = b ∧ bs = as) ∨ (q ≠ p ∧ (q, c, bs) ∈ st) := by
  obtain ⟨⟨r, c', cs⟩, mm, e⟩ := List.mem_map.mp h
  by_cases z : r = p
  · have e : (if r = p then (p, b, as) else (r, c', cs)) = (q, c, bs) := e
    rw [if_pos z] at e
    cases e
    exact .inl ⟨rfl, rfl, rfl⟩
  · have e : (if r = p then (p, b, as) else (r, c', cs)) = (q, c, bs) := e
    rw [if_neg z] at e
    cases e
    exact .inr ⟨z, mm⟩
theorem Sl.rep {K : PySem.W.Frag} {w : Wl} {σ : L2.St} {p : Addr} {b0 b : Ck} {bs0 as : List AV} {vs : List V} (h : Sl K (w0.at st) w σ ss) (mm : (p, b0, bs0) ∈ st) (hg : w.g p = none) (hv : AvA K w vs as) (hp : as.all AV.plain = true) : Sl K (w0.at (stRep st p b as)) (w.own p (hol b vs) hg) σ ss := by
  have h0 : w0.h p = none := (h.so.key mm).1
  refine ⟨⟨h.le.g, fun b o e => ?_, h.le.hid⟩, h.len, fun i a e => ?_, h.ap, h.fr, ⟨fun q c cs n => ?_, ?_⟩, fun i ds q e1 e2 c cs n => ?_⟩
  · show upd w.h p _ b = some o
    rw [upd_ne (ne_of_none e h0)]
    exact h.le.h b o e
  · obtain ⟨v, h1, h2⟩ := h.at_ i a e
    refine ⟨v, h1, ?_⟩
    cases a with
    | buf es =>
      obtain ⟨r, zs, rfl, c1, c2, c3⟩ := h2
      have z : r ≠ p := fun z => by
        subst z
        exact h.sd i es r e h1 _ _ mm
      exact ⟨r, zs, rfl, (upd_ne z).trans c1, c2, c3⟩
    | _ => exact h2
  · have n : (q, c, cs) ∈ stRep st p b as := n
    rcases mem_stRep n with ⟨rfl, rfl, rfl⟩ | ⟨ne, n⟩
    · exact ⟨h0, hp, vs, upd_same, hg, AvA.monoG (w1 := w) (w2 := w.own q (hol c vs) hg) (Ex.refl w.g) hp hv⟩
    · obtain ⟨z0, z1, us, z2, z3, z4⟩ := h.so.key n
      exact ⟨z0, z1, us, (upd_ne ne).trans z2, z3, AvA.monoG (w1 := w) (w2 := w.own p (hol b vs) hg) (Ex.refl w.g) z1 z4⟩
  · show ((stRep st p b as).map (·.1)).Nodup
    rw [stRep_keys]
    exact h.so.nd
  · have n : (q, c, cs) ∈ stRep st p b as := n
    rcases mem_stRep n with ⟨rfl, rfl, rfl⟩ | ⟨ne, n⟩
    · exact h.sd i ds q e1 e2 _ _ mm
    · exact h.sd i ds q e1 e2 c cs n
/-- fields by name: one more, or one anew -/
def ksPut : List Str → Str → List Str
  | [], f => [f]
  | k :: ks, f => if k = f then k :: ks else k :: ksPut ks f
def asPut {α : Type} : List Str → List α → Str → α → List α
  | [], _, _, a => [a]
  | k :: ks, b :: bs, f, a => if k = f then a :: bs else b :: asPut ks bs f a
  | _ :: _, [], _, _ => []
theorem putF_zip (f : Str) (y : V) : ∀ (ks : List Str) (vs : List V), ks.length = vs.length → putF f y (ks.zip vs) = (ksPut ks f).zip (asPut ks vs f y)
  | [], [], _ => rfl
  | [], _ :: _, h => by cases h
  | _ :: _, [], h => by cases h
  | k :: ks, v :: vs, h => by
    show putF f y ((k, v) :: ks.zip vs) = _
    unfold putF ksPut asPut
    by_cases e : k = f
    · rw [if_pos e, if_pos e, if_pos e]
      subst e
      rfl
    · rw [if_neg e, if_neg e, if_neg e, putF_zip f y ks vs (Nat.succ.inj h)]
      rfl
theorem asPut_av {K : PySem.W.Frag} {w : Wl} {f : Str} {y : V} {a : AV} (hy : Av K w y a) : ∀ {ks : List Str} {vs : List V} {as : List AV}, AvA K w vs as → AvA K w (asPut ks vs f y) (asPut ks as f a)
  | [], _, _, _ => .cons hy .nil
  | _ :: _, [], [], .nil => .nil
  | k :: ks, _ :: _, _ :: _, .cons h t => by
    unfold asPut
    by_cases e : k = f
    · rw [if_pos e, if_pos e]; exact .cons hy t
    · rw [if_neg e, if_neg e]; exact .cons h (asPut_av hy t)
theorem asPut_plain {f : Str} {a : AV} (ha : a.plain = true) : ∀ {ks : List Str} {as : List AV}, as.all AV.plain = true → (asPut ks as f a).all AV.plain = true
  | [], _, _ => by
    unfold asPut
    rw [List.all_cons, ha]
    rfl
  | _ :: _, [], _ => rfl
  | k :: ks, b :: as, h => by
    rw [List.all_cons, Bool.and_eq_true] at h
    unfold asPut
    by_cases e : k = f
    · rw [if_pos e, List.all_cons, ha, h.2]; rfl
    · rw [if_neg e, List.all_cons, h.1, asPut_plain ha h.2]; rfl
theorem AvA.len {K : PySem.W.Frag} {w : Wl} : ∀ {vs : List V} {as : List AV}, AvA K w vs as → vs.length = as.length
  | _, _, .nil => rfl
  | _, _, .cons _ t => congrArg (· + 1) (AvA.len t)
/-- o.f of an instance of the store -/
theorem lookup_at {K : PySem.W.Frag} {w : Wl} {f : Str} {a : AV} : ∀ {ks : List Str} {vs : List V} {as : List AV}, AvA K w vs as → (ks.zip as).lookup f = some a → ∃ v, (ks.zip vs).lookup f = some v ∧ Av K w v a
  | [], _, _, _, e => by cases e
  | _ :: _, [], [], .nil, e => by cases e
  | k :: ks, v :: vs, b :: as, .cons h t, e => by
    rw [List.zip_cons_cons, List.lookup_cons] at e ⊢
    cases q : (f == k) with
    | true =>
      rw [q] at e
      cases e
      exact ⟨v, rfl, h⟩
    | false =>
      rw [q] at e
      exact lookup_at t e
theorem k_fldM {f : Str} {R : AV → Prop} (h : KE X (w0.at st) o ss fun x => ∃ p C dx ks as a, x = .at_ p ∧ (p, Ck.ins C dx ks, as) ∈ st ∧ Cls X.K C ∧ NoAttr X.K C f ∧ (ks.zip as).lookup f = some a ∧ R a) (hb : attributeBase o f X.env (eval o X.env) = eval o X.env := by rfl) : KE X (w0.at st) (.Attribute o f pos) ss R :=
  PE.imp (pe_fld h hb) fun σ H Q ⟨w, ew, hs, q⟩ => ⟨w, ew, hs, fun v x w1 l1 hv hk => by
    obtain ⟨p, C, dx, ks, as, a, rfl, m, c, n, e, hr⟩ := hk
    cases hv
    obtain ⟨_, _, vs, h1, _, h3⟩ := (hs.mono l1).so.key m
    have h1 : w1.h p = some (.ins C dx (ks.zip vs)) := h1
    obtain ⟨u, e1, e2⟩ := lookup_at h3 e
    exact ⟨p, C, dx, _, u, rfl, h1, c, n, e1, q u a w1 l1 e2 hr⟩⟩
/-- o.f = e of an instance of the store -/
theorem m_fput {f : Str} {e : Expr} {pos' : Pos} {N : MN}
    (h : ME X w0 e st ss fun st' a => onPlain a fun a => KE X (w0.at st') o ss fun x => ∃ p C dx ks as, x = .at_ p ∧ (p, Ck.ins C dx ks, as) ∈ st' ∧ ks.length = as.length ∧ ks.length ≤ 100 ∧ Cls X.K C ∧ NoAttr X.K C f ∧ N.nx (stRep st' p (.ins C dx (ksPut ks f)) (asPut ks as f a)) ss)
    (hs : swapsWith e (some (.Attribute o f pos')) pos.line X.env = pure false := by rfl) : MS X w0 (.Assign [.Attribute o f pos'] e pos) st ss N :=
  PS.imp (ps_fld (pe_anK (w0 := w0)) h hs) fun D σ H ⟨w, ew, hsl, d⟩ => ⟨w, ew, hsl, fun v a st' w1 e1 hs1 hv hk => by
    obtain ⟨hpa, hk⟩ := hk.of
    refine ⟨st', ss, _, hk, w1, rfl, hs1, fun u x w2 l2 hu hx => ?_⟩
    obtain ⟨p, C, dx, ks, as, rfl, m, hl, hz, c, n, hN⟩ := hx
    cases hu
    have hs2 := hs1.mono l2
    obtain ⟨_, hp, vs, h1, h2, h3⟩ := hs2.so.key m
    have h1 : w2.h p = some (.ins C dx (ks.zip vs)) := h1
    have hlv : ks.length = vs.length := by rw [h3.len]; exact hl
    refine ⟨p, C, dx, _, rfl, h1, c, n, by rw [List.length_zip, ← hlv, Nat.min_self]; omega, ?_⟩
    rw [putF_zip f v ks vs hlv]
    exact d.nx σ ss _ (w2.own p (.ins C dx ((ksPut ks f).zip (asPut ks vs f v))) h2) (e1.trans l2.g) (hs2.rep (b := .ins C dx (ksPut ks f)) (vs := asPut ks vs f v) m h2 (asPut_av (hv.mono l2) h3) (asPut_plain hpa hp)) hN⟩
/-! ### a part of the store is leant on from here -/
theorem SOk.left {K : PySem.W.Frag} {w : Wl} {S : Store} (h : SOk K (w0.at (S ++ st)) w) : SOk K (w0.at S) w := ⟨fun p b as m => h.own p b as (List.mem_append_left _ m), by
  have z : ((S ++ st).map (·.1)).Nodup := h.nd
  rw [List.map_append] at z
  exact (List.nodup_append.mp z).1⟩
theorem SOk.apart {K : PySem.W.Frag} {w : Wl} {S : Store} (h : SOk K (w0.at (S ++ st)) w) {p : Addr} {b : Ck} {as : List AV} (m : (p, b, as) ∈ st) : p ∉ S.map (·.1) := fun z => by
  have q : ((S ++ st).map (·.1)).Nodup := h.nd
  rw [List.map_append] at q
  exact (List.nodup_append.mp q).2.2 p z p (List.mem_map_of_mem (f := (·.1)) m) rfl
theorem SOk.part {K : PySem.W.Frag} {w : Wl} {S : Store} (h : SOk K (w0.at (S ++ st)) w) : SOk K (w0.at st) (w.frz S) := ⟨fun p b as m => by
  obtain ⟨h0, hp, vs, h1, h2, h3⟩ := h.own p b as (List.mem_append_right _ m)
  refine ⟨h0, hp, vs, h1, ?_, AvA.monoG (w1 := w) (w2 := w.frz S) h.left.frz_g hp h3⟩
  exact (frzG_out (h.apart m)).trans h2, by
  have z : ((S ++ st).map (·.1)).Nodup := h.nd
  rw [List.map_append] at z
  exact (List.nodup_append.mp z).2.1⟩
theorem Sl.part {K : PySem.W.Frag} {w : Wl} {σ : L2.St} {S : Store} (h : Sl K (w0.at (S ++ st)) w σ ss) : Sl K (w0.at st) (w.frz S) σ ss := by
  have so : SOk K (w0.at S) w := h.so.left
  refine ⟨⟨h.le.g.trans so.frz_g, h.le.h, fun b h1 h2 => ?_⟩, h.len, fun i a q => ?_, h.ap, h.fr, h.so.part, fun i ds p e1 e2 b as m => h.sd i ds p e1 e2 b as (List.mem_append_right _ m)⟩
  · have z : b ∉ S.map (·.1) := fun z => by
      obtain ⟨t, as, m⟩ := mem_key z
      exact h1 (so.key m).1
    exact (frzG_out z).trans (h.le.hid b h1 h2)
  · obtain ⟨v, h1, h2⟩ := h.at_ i a q
    refine ⟨v, h1, ?_⟩
    by_cases hp : a.plain = true
    · exact Av.monoG so.frz_g hp h2
    · cases a with
      | buf ds =>
        obtain ⟨p, vs, rfl, g1, g2, g3⟩ := h2
        have z : p ∉ S.map (·.1) := fun z => by
          obtain ⟨t, as, m⟩ := mem_key z
          exact h.sd i ds p q h1 t as (List.mem_append_left _ m)
        exact ⟨p, vs, rfl, g1, (frzG_out z).trans g2, g3.mono so.frz_g⟩
      | _ => exact absurd rfl hp
/-- an instance of the store, as a value -/
def SplI (S : Store) (p C : Addr) (fs : List (Str × PyData)) : Prop := ∃ (dx : Addr) (ks : List Str) (as : List AV) (ds : List PyData), (p, Ck.ins C dx ks, as) ∈ S ∧ SplA S as ds ∧ fs = ks.zip ds
theorem SplI.av {K : PySem.W.Frag} {w : Wl} {S : Store} {p C : Addr} {fs : List (Str × PyData)} (so : SOk K (w0.at S) w) (h : SplI S p C fs) : Av K (w.frz S) (.ref p) (.ins C fs) := by
  obtain ⟨dx, ks, as, ds, m, sp, rfl⟩ := h
  obtain ⟨_, _, vs, h1, _, h3⟩ := so.key m
  exact ⟨p, dx, ks.zip vs, rfl, (frzG_in (List.mem_map_of_mem (f := (·.1)) m)).trans h1, FdA.zip ks (SplA.dd so sp h3)⟩
/-- what is new in the store is leant on -/
theorem me_part {e : Expr} {R : Store → AV → Prop} (h : ME X w0 e st ss fun st' a => ∃ S st2, st' = S ++ st2 ∧ ((∃ d, Spl S a d ∧ R st2 (.dat d)) ∨ ∃ p C fs, a = .at_ p ∧ SplI S p C fs ∧ R st2 (.ins C fs))) : ME X w0 e st ss R :=
  PE.imp h fun σ H Q ⟨w, ew, hs, q⟩ => ⟨w, ew, hs, fun v a st' w1 e1 hs1 hv ⟨S, st2, es, hk⟩ => by
    subst es
    have so : SOk X.K (w0.at S) w1 := hs1.so.left
    rcases hk with ⟨d, sp, hr⟩ | ⟨p, C, fs, rfl, sp, hr⟩
    · exact q v (.dat d) st2 (w1.frz S) (e1.trans so.frz_g) hs1.part (Spl.dd so sp hv) hr
    · cases hv
      exact q _ (.ins C fs) st2 (w1.frz S) (e1.trans so.frz_g) hs1.part (sp.av so) hr⟩
/-! ### calls -/
theorem spM_go {K : PySem.W.Frag} {C : Store → List AV → (Store → AV → Prop) → Prop} {vs : List V} {as : List AV} {R : Store → AV → Prop} {w1 : Wl} {σ : L2.St} {Q : VK} {E : XK} (hs1 : Sl K (w0.at st) w1 σ ss) (hvs : AvA K w1 vs as) (hk : as.all AV.plain = true ∧ C st as R)
    (q : ∀ v a st' w', Ex w1.g w'.g → Sl K (w0.at st') w' σ ss → Av K w' v a → R st' a → Q v w'.h) : spM K C vs w1.h Q E := by
  have offIn : ∀ b, b ∈ st.map (·.1) → offH w1.h st b = none := fun b h => if_pos h
  have offOut : ∀ b, b ∉ st.map (·.1) → offH w1.h st b = w1.h b := fun b h => if_neg h
  have sub : Ex w1.g (offH w1.h st) := fun b u e => by
    by_cases z : b ∈ st.map (·.1)
    · obtain ⟨t, bs, m⟩ := mem_key z
      obtain ⟨_, _, us, _, q2, _⟩ := hs1.so.key m
      rw [q2] at e
      cases e
    · rw [offOut b z]
      exact w1.sub b u e
  have le1 : Le ⟨w1.g, offH w1.h st, sub, []⟩ w1 := ⟨Ex.refl _, fun b u e => by
    by_cases z : b ∈ st.map (·.1)
    · have e : offH w1.h st b = some u := e
      rw [offIn b z] at e
      cases e
    · have e : offH w1.h st b = some u := e
      rw [offOut b z] at e
      exact e, fun _ _ h => h⟩
  refine ⟨⟨w1.g, offH w1.h st, sub, []⟩, w1, st, as, R, rfl, le1, ⟨fun q b bs m => ?_, hs1.so.nd⟩, hvs, hk, fun v a st' w' l' eg o' ha hr => ?_⟩
  · obtain ⟨z0, z1, us, z2, z3, z4⟩ := hs1.so.key m
    exact ⟨offIn q (List.mem_map_of_mem (f := (·.1)) m), z1, us, z2, z3, z4⟩
  · have keep : ∀ b u, b ∉ st.map (·.1) → w1.h b = some u → w'.h b = some u := fun b u z e => l'.h b u ((offOut b z).trans e)
    have nokey : ∀ b, w0.h b ≠ none → b ∉ st.map (·.1) := fun b hb z => by
      obtain ⟨t, bs, m⟩ := mem_key z
      exact hb (hs1.so.key m).1
    have hidN : ∀ b, b ∉ st.map (·.1) → w1.h b ≠ none → w1.g b = none → w'.g b = none := fun b z e1 e2 => l'.hid b (by
      show offH w1.h st b ≠ none
      rw [offOut b z]
      exact e1) e2
    have bufN : ∀ (i : Nat) (ds : List PyData) (p : Addr), ss[i]? = some (some (AV.buf ds)) → σ[i]? = some (some (V.ref p)) → p ∉ st.map (·.1) := fun i ds p e1 e2 z => by
      obtain ⟨t, bs, m⟩ := mem_key z
      exact hs1.sd i ds p e1 e2 t bs m
    refine q v a st' w' eg ⟨⟨hs1.le.g.trans eg, fun b u e => keep b u (nokey b (by have e : w0.h b = some u := e; rw [e]; simp)) (hs1.le.h b u e), fun b h1 h2 => ?_⟩, hs1.len, fun i c e => ?_, hs1.ap, hs1.fr, ⟨fun q b bs m => ?_, o'.nd⟩, fun i ds p e1 e2 b bs m => ?_⟩ ha hr
    · have h1 : w0.h b ≠ none := h1
      refine hidN b (nokey b h1) (fun z => h1 (exFree hs1.le.h z)) (hs1.le.hid b h1 h2)
    · obtain ⟨u, h1, h2⟩ := hs1.at_ i c e
      refine ⟨u, h1, ?_⟩
      by_cases hp : c.plain = true
      · exact Av.monoG eg hp h2
      · cases c with
        | buf ds =>
          obtain ⟨p, us, rfl, g1, g2, g3⟩ := h2
          have z := bufN i ds p e h1
          exact ⟨p, us, rfl, keep p _ z g1, hidN p z (by rw [g1]; simp) g2, g3.mono eg⟩
        | _ => exact absurd rfl hp
    · obtain ⟨z0, z1, us, z2, z3, z4⟩ := o'.own q b bs m
      refine ⟨?_, z1, us, z2, z3, z4⟩
      show w0.h q = none
      cases e : w0.h q with
      | none => rfl
      | some u =>
        have n := nokey q (by rw [e]; simp)
        have z0 : offH w1.h st q = none := z0
        rw [offOut q n] at z0
        have := hs1.le.h q u e
        rw [this] at z0
        cases z0
    · obtain ⟨z0, _⟩ := o'.own p b bs m
      have z0 : offH w1.h st p = none := z0
      have n := bufN i ds p e1 e2
      rw [offOut p n] at z0
      obtain ⟨u, h1, r, us, h2, h3, _⟩ := hs1.at_ i _ e1
      rw [e2] at h1
      cases h1
      cases h2
      rw [z0] at h3
      cases h3
/-- by the name x instances of the class at C are made; its __init__ does Ct -/
def MkM (P : Program) (w : World) (K : PySem.W.Frag) (mg : Str → Option Value) (base : Heap) (x : Str) (C : Addr) (k : Nat) (Ct : Store → List AV → (Store → AV → Prop) → Prop) : Prop := ∃ (f : Addr) (fd : FuncData) (ps : List Str),
  Mk K C f ∧ FnOk P w K mg base CX0 k f fd ps (spM K Ct) ∧ mg x = some (.ref C) ∧ Binds K fd ps []
/-- C(e, ..) -/
theorem me_make {Ct : Store → List AV → (Store → AV → Prop) → Prop} {j k : Nat} {x : Str} {C : Addr} {p : Pos} {e : Expr} {es : List Expr} {R : Store → AV → Prop} (D : MkM X.prog X.w X.K X.mg X.base x C k Ct) (hr : Room j X.A) (hk : k + 1 ≤ j) (hg : Gl X x)
    (h : KA X (w0.at st) (e :: es) ss fun as => as.all AV.plain = true ∧ ∀ p dx, Fresh st p → Ct ((p, Ck.ins C dx [], []) :: st) (.at_ p :: as) fun st' a => a = .dat .none ∧ R st' (.at_ p)) (hdb : (x == ("__debug__" : Str)) = false := by decide) (he : starEach (e :: es) X.env = (false, eval e X.env) :: starEach es X.env := by rfl) (hpl : (backTo pos (starEach es X.env)).any (·.1) = false := by rfl) :
    ME X w0 (.Call (.Name x p) (e :: es) [] pos) st ss R := by
  obtain ⟨f, fd, ps, M, F, hm, hb⟩ := D
  refine PE.imp (pe_make (E := (fun _ _ _ => False : XK)) M F (hr.mono hk) hg hm hb .nil pass0 h hdb he hpl) fun σ H Q ⟨w, ew, hs, q⟩ => ⟨w, ew, hs, fun vs as w1 l1 hvs ⟨hp, hk⟩ => ?_⟩
  intro x dx hx hdx ne
  rw [List.append_nil]
  have hs1 := hs.mono l1
  have l2 : Le w1 (w1.put dx (.own x)) := Le.put hdx
  have hx2 : (w1.put dx (.own x)).h x = none := (upd_ne (Ne.symm ne)).trans hx
  have l3 : Le (w1.put dx (.own x)) ((w1.put dx (.own x)).own x (.ins C dx []) ((w1.put dx (.own x)).gfree hx2)) := Le.own hx2
  obtain ⟨fr, hs3⟩ := Sl.new (b := .ins C dx []) (vs := []) (as := []) (hs1.mono l2) l3 hx2 upd_same ((w1.put dx (.own x)).gfree hx2) .nil rfl
  refine spM_go (w1 := (w1.put dx (.own x)).own x (.ins C dx []) ((w1.put dx (.own x)).gfree hx2)) hs3 (.cons (a := .at_ x) (show V.ref x = V.ref x from rfl) ((hvs.mono l2).mono l3)) ⟨by rw [List.all_cons, hp]; rfl, hk x dx fr⟩ fun v a st' w' eg hs' ha ⟨ea, hr⟩ => ?_
  subst ea
  cases ha
  exact ⟨rfl, q (.ref x) (.at_ x) st' w' ((l1.g.trans (l2.g.trans l3.g)).trans eg) hs' rfl hr⟩
/-- the method m of the class at C does Ct -/
def MtM (P : Program) (w : World) (K : PySem.W.Frag) (mg : Str → Option Value) (base : Heap) (C : Addr) (m : Str) (k : Nat) (Ct : Store → List AV → (Store → AV → Prop) → Prop) : Prop := ∃ (f : Addr) (fd : FuncData) (ps : List Str),
  Meth K C m f ∧ FnOk P w K mg base CX0 k f fd ps (spM K Ct) ∧ Binds K fd ps []
/-- o.m() of an instance that is a value -/
theorem me_meth0 {Ct : Store → List AV → (Store → AV → Prop) → Prop} {j k : Nat} {m : Str} {C : Addr} {apos : Pos} {R : Store → AV → Prop} {pl : Sem Bool} (c : Cls X.K C) (D : MtM X.prog X.w X.K X.mg X.base C m k Ct) (hr : Room j X.A) (hk : k ≤ j)
    (h : KE X (w0.at st) o ss fun x => ∃ ds, x = .ins C ds ∧ ds.lookup m = none ∧ Ct st [x] R)
    (ht : eval (.Call (.Attribute o m apos) [] [] pos) X.env = (do
      let ov ← eval o X.env
      standAt apos.atName
      let (f, first) ← holding [ov] (getMethod ov m pl)
      callWith pos f first (backTo pos (starEach [] X.env)) (backToKw pos (keywordEach [] X.env))) := by rfl) :
    ME X w0 (.Call (.Attribute o m apos) [] [] pos) st ss R := by
  obtain ⟨f, fd, ps, M, F, hb⟩ := D
  refine PE.imp (pe_meth0 (pl := pl) (E := (fun _ _ _ => False : XK)) h c M F (hr.mono hk) hb .nil pass0 ht) fun σ H Q ⟨w, ew, hs, q⟩ => ⟨w, ew, hs, fun v x w1 l1 hv ⟨ds, ex, hl, hC⟩ => ?_⟩
  subst ex
  have hv0 := hv
  obtain ⟨a, dx, fs, rfl, h1, h2⟩ := hv
  refine ⟨a, dx, fs, rfl, w1.sub _ _ h1, lookup_none h2 hl, ?_⟩
  exact spM_go (E := (fun _ _ _ => False : XK)) (hs.mono l1) (.cons hv0 .nil) ⟨rfl, hC⟩ fun v a st' w' eg hs' ha hr => q v a st' w' (l1.g.trans eg) hs' ha hr
/-- a promise over the store, as one over data -/
theorem spM_data {K : PySem.W.Frag} {C : Store → List AV → (Store → AV → Prop) → Prop} {C' : List AV → (AV → Prop) → Prop} (h : ∀ as R, C' as R → C [] as fun st' a => (∃ d, Spl st' a d ∧ R (.dat d)) ∨ ∃ p C fs, a = .at_ p ∧ SplI st' p C fs ∧ R (.ins C fs)) {vs : List V} {H : Hp} {Q : VK} {E : XK} (q : spA K C' vs H Q E) : spM K C vs H Q E := by
  obtain ⟨w1, as, R, ew, hv, hc, q⟩ := q
  refine ⟨w1.bare, w1, [], as, _, ew, Le.bare w1, SOk.bare, hv, ⟨hc.1, h as R hc.2⟩, fun v a st' w' l' eg o' ha hk => ?_⟩
  have le : Le w1 (w'.frz st') := ⟨eg.trans o'.frz_g, l'.h, fun b h1 h2 => by
    have z : b ∉ st'.map (·.1) := fun z => by
      obtain ⟨t, bs, m⟩ := mem_key z
      exact h1 (o'.key m).1
    exact (frzG_out z).trans (l'.hid b h1 h2)⟩
  rcases hk with ⟨d, sp, hr⟩ | ⟨p, C2, fs, rfl, sp, hr⟩
  · exact q v (.dat d) (w'.frz st') le (Spl.dd o' sp ha) hr
  · cases ha
    exact q _ (.ins C2 fs) (w'.frz st') le (sp.av o') hr
end
end Kp


namespace Kp
open PySem PySem.Spec PyProof.Rows L2
/-! ### copies of lists -/
section
variable {X : Cx} {w0 : Wl} {ss : SS} {st : Store} {pos : Pos} {a b : Expr}
/-- a new list, one of two -/
theorem kn_ifE {c a b : Expr} {R : List PyData → Prop} (h : KT X w0 c ss fun t => iteP t (KN X w0 a ss R) (KN X w0 b ss R)) : KN X w0 (.IfExp c a b pos) ss R :=
  PE.imp (pe_ifExp h pn_an pn_an) fun σ H Q ⟨w, ew, hs, q⟩ => ⟨w, ew, hs, fun t w1 l1 hk => by
    cases t
    · exact iteF ⟨_, hk, w1, rfl, hs.mono l1, fun p vs ds w' l hn h1 h2 h3 hr => q p vs ds w' (l1.trans l) (exFree l1.h hn) h1 h2 h3 hr⟩
    · exact iteT ⟨_, hk, w1, rfl, hs.mono l1, fun p vs ds w' l hn h1 h2 h3 hr => q p vs ds w' (l1.trans l) (exFree l1.h hn) h1 h2 h3 hr⟩⟩
/-- list(e), a new list that nothing leans on; e data, or a list of the store that holds data -/
theorem kn_list {e : Expr} {p : Pos} {R : List PyData → Prop} (hg : Gl X "list") (hm : X.mg "list" = none) (h : KE X (w0.at st) e ss fun x => ∃ ds, (x = .dat (.list ds) ∨ ∃ q, x = .at_ q ∧ (q, Ck.lst, ds.map AV.dat) ∈ st) ∧ R ds)
    (he : starEach [e] X.env = (false, eval e X.env) :: starEach [] X.env := by rfl) (hpl : (backTo pos (starEach [] X.env)).any (·.1) = false := by rfl) : KN X (w0.at st) (.Call (.Name "list" p) [e] [] pos) ss R :=
  PE.imp (pe_callTy call_list_of hg hm (by decide +kernel) (pa_cons h pa_nil he) (by decide) (by decide) he hpl) fun σ H Q ⟨w, ew, hs, q⟩ => ⟨w, ew, hs, fun v x w1 l1 hv ⟨ds, hx, hr⟩ => by
    have go : ∀ (a : Addr) (vs : List V), v = .ref a → w1.h a = some (.lst vs) → DdA X.K w1.g vs ds → ∃ p ys, [v] = [V.ref p] ∧ (SqL X.K w1.h p ys ∨ SqT X.K w1.h p ys) ∧ ∀ l, w1.h l = none → Q (.ref l) (upd w1.h l (.lst ys)) := fun a vs e1 e2 e3 => by
      subst e1
      exact ⟨a, vs, rfl, .inl (.inl (.inl e2)), fun l hl => q l vs ds (w1.own l (.lst vs) (w1.gfree hl)) (l1.trans (Le.own hl)) (exFree l1.h hl) upd_same (w1.gfree hl) (e3.mono (Le.own (o := .lst vs) hl).g) hr⟩
    rcases hx with rfl | ⟨q0, rfl, m⟩
    · cases hv with
      | lst h1 d1 => exact go _ _ rfl (w1.sub _ _ h1) d1
    · cases hv
      obtain ⟨_, _, vs, h1, _, h3⟩ := (hs.mono l1).so.key m
      exact go q0 vs rfl h1 h3.dats⟩
/-- isinstance(e, list) of a list of the store -/
theorem k_isiL {e : Expr} {p p2 : Pos} {R : AV → Prop} (hg : Gl X "isinstance") (hm : X.mg "isinstance" = none) (hg2 : Gl X "list") (hm2 : X.mg "list" = none)
    (h : KE X (w0.at st) e ss fun a => ((∃ ds, a = .dat (.list ds)) ∨ ∃ q as, a = .at_ q ∧ (q, Ck.lst, as) ∈ st) ∧ R (.dat (.bool true)))
    (he : starEach [e, .Name "list" p2] X.env = (false, eval e X.env) :: starEach [.Name "list" p2] X.env := by rfl) (hpl : (backTo pos (starEach [.Name "list" p2] X.env)).any (·.1) = false := by rfl)
    (he2 : starEach [.Name "list" p2] X.env = (false, eval (.Name "list" p2) X.env) :: starEach [] X.env := by rfl) : KE X (w0.at st) (.Call (.Name "isinstance" p) [e, .Name "list" p2] [] pos) ss R :=
  PE.imp (pe_callB call_isi hg hm (by decide +kernel) (pa_cons h (pa_cons (pe_bltn hg2 hm2 (by decide +kernel : bootBuiltins "list" = some (.type "list")) (v := .ty "list") rfl (by decide) (by decide)) pa_nil he2) he) (by decide) (by decide) he hpl) fun σ H Q ⟨w, ew, hs, q⟩ => ⟨w, ew, hs, fun v a w1 l1 hv ⟨ha, hr⟩ => by
    have kb : kitB "list" "list" = some true := by decide +kernel
    rcases ha with ⟨ds, rfl⟩ | ⟨q0, as, rfl, m⟩
    · exact ⟨v, .ty "list", _, _, true, rfl, .ty "list", Dd.ty (Dd.mono w1.sub hv), kit_ty kb, q (.bl true) (.dat (.bool true)) w1 l1 (.bl true) hr⟩
    · cases hv
      obtain ⟨_, _, vs, h1, _, h3⟩ := (hs.mono l1).so.key m
      have h1 : w1.h q0 = some (.lst vs) := h1
      exact ⟨.ref q0, .ty "list", _, _, true, rfl, .ty "list", .base (.lst h1), kit_ty kb, q (.bl true) (.dat (.bool true)) w1 l1 (.bl true) hr⟩⟩
/-- [elt for y in a list of the store] -/
theorem me_lcO {y : Str} {py : Pos} {k : Nat} {elt iter : Expr} {scope : Scope} {R : Store → AV → Prop} (hc : X.calm = true) (hN : X.N.Nodup) (hb : nbS ss = true) (ok : BlkOk X.N X.env.scope scope [(y, k)])
    (hg : ∀ (s : Shared) (H : Hp) (C : Addr) (cl : List (Str × Addr)) (fp : List Addr), PG (X.blk s H scope (compEnvC scope cl C X.env) fp) (.Name y py) (gName k))
    (h : KE X (w0.at st) iter ss fun x => ∃ L as, x = .at_ L ∧ (L, Ck.lst, as) ∈ st ∧ as.length ≤ 50000 ∧ ∃ P : Addr → Nat → Store → List AV → Prop, (∀ D, Fresh st D → P D 0 ((D, Ck.lst, []) :: st) []) ∧ (∀ D i st' acc, P D i st' acc → (L, Ck.lst, as) ∈ st') ∧
      (∀ D i a st' acc, as[i]? = some a → (D, Ck.lst, acc) ∈ st' → P D i st' acc → BM X w0 scope elt st' ((wipeS ss [k]).set k (some a)) fun st2 b => onPlain b fun b => (D, Ck.lst, acc) ∈ st2 ∧ P D (i + 1) (stSet st2 D (acc ++ [b])) (acc ++ [b])) ∧
      ∀ D st' acc, (D, Ck.lst, acc) ∈ st' → P D as.length st' acc → R st' (.at_ D))
    (hs : ∀ x, foldedSetIterable iter X.env x = pure x := by intro _; rfl) : ME X w0 (.ListComp elt [⟨.Name y py, iter, [], 0⟩] scope pos) st ss R := by
  refine PE.imp (pe_lc hc hN (pi_list h) ok hg (fun _ _ _ _ _ => pts_nil) (te := anBM X w0 scope elt) (fun s H C cl fp => ⟨fun pins s' σ H' Q I ⟨_, _, _, hh, q⟩ => (hh s H C cl fp).run pins s' σ H' Q I q⟩) hs) fun σ H Q ⟨w, ew, hsl, q⟩ => ?_
  refine ⟨w, ew, hsl, fun v a w1 l1 hv hk => ?_⟩
  obtain ⟨L, as, rfl, mL, hz, P, p0, pm, pt, pe⟩ := hk
  cases hv
  have hs1 := hsl.mono l1
  obtain ⟨_, _, vs1, g1, _, _⟩ := hs1.so.key mL
  have g1 : w1.h L = some (.lst vs1) := g1
  refine ⟨L, rfl, ⟨_, .inl (.inl g1)⟩, fun D hD => ?_⟩
  obtain ⟨frD, hsD⟩ := Sl.new (b := .lst) (vs := []) (as := []) hs1 (Le.own (o := .lst []) hD) hD upd_same (w1.gfree hD) .nil rfl
  let Inv := fun (i : Nat) (H' : Hp) => ∃ (w' : Wl) (st' : Store) (acc : List AV), w'.h = H' ∧ Sl X.K (w0.at st') w' σ ss ∧ Ex w1.g w'.g ∧ (D, Ck.lst, acc) ∈ st' ∧ P D i st' acc ∧ acc.length ≤ i
  refine ⟨fun i m H' => m = as.length - i ∧ i ≤ as.length ∧ Inv i H', ⟨as.length, by simp, Nat.zero_le _, w1.own D (.lst []) (w1.gfree hD), _, [], rfl, hsD, Ex.refl _, List.mem_cons_self, p0 D frD, Nat.le_refl 0⟩, ?_⟩
  rintro i m H' ⟨rfl, hi, w', st', acc, rfl, hs', eg, mD, hp, hl⟩
  obtain ⟨_, hpl, us, k1, _, k3⟩ := hs'.so.key (pm D i st' acc hp)
  have k1 : SqL X.K w'.h L us := .inl (.inl k1)
  by_cases hlt : i < as.length
  · refine .inr ?_
    have hget : as[i]? = some as[i] := by simp [hlt]
    obtain ⟨u, hu, au⟩ := k3.get hget
    have hpa : (as[i]).plain = true := List.all_eq_true.mp hpl _ (List.getElem_mem hlt)
    refine ⟨⟨us, u, k1, hu⟩, Inv (i + 1), fun H2 iv => ⟨as.length - (i + 1), by omega, rfl, hlt, iv⟩, fun y H2 yy => ?_⟩
    obtain ⟨rfl, yy⟩ := yy
    have e3 := yy us k1
    rw [hu] at e3
    cases e3
    have hsw := ((hs'.wipe [k]).set (a := as[i]) k hpa au)
    refine ⟨?_, ?_⟩
    · show ((σ.set k none).set k (some u)).set k none = σ.set k none
      rw [List.set_set, List.set_set]
    refine iteT (B := Inv (i + 1) w'.h) ?_
    refine ⟨st', _, _, pt D i _ st' acc hget mD hp, w', rfl, hsw, fun v b st2 w4 e4 hs4 hv4 hb2 => ?_⟩
    obtain ⟨hplb, m4, hP⟩ := hb2.of
    obtain ⟨_, hpa4, vs, g1, g2, g3⟩ := hs4.so.key m4
    have g1 : w4.h D = some (.lst vs) := g1
    have hsb : Sl X.K (w0.at st2) w4 σ ss := Sl.backM hb hs' hs4 e4
    refine ⟨vs, g1, ?_, w4.own D (.lst (vs ++ [v])) g2, _, acc ++ [b], rfl, hsb.setC m4 g2 (g3.appA (.cons hv4 .nil)) (by rw [List.all_append, hpa4, List.all_cons, hplb]; rfl), eg.trans e4, stSet_at m4, hP, by rw [List.length_append]; exact Nat.succ_le_succ hl⟩
    rw [g3.length]
    exact Nat.lt_of_le_of_lt (Nat.le_trans hl (Nat.le_of_lt (Nat.lt_of_lt_of_le hlt hz))) (by decide)
  · have e : i = as.length := by omega
    subst e
    refine .inl ⟨⟨us, k1, by rw [k3.length]; exact Nat.le_refl _⟩, ?_⟩
    exact q (.ref D) (.at_ D) st' w' (l1.g.trans eg) hs' rfl (pe D st' acc mD hp)
end
end Kp


namespace Kp
open PySem PySem.Spec PyProof.Rows L2
/-! ### new lists of lists, as data or in the store -/
section
variable {X : Cx} {w0 : Wl} {ss : SS} {st : Store} {pos : Pos}
theorem SOk.some_ {K : PySem.W.Frag} {w : Wl} {S st' : Store} (h : SOk K (w0.at st') w) (hS : ∀ x ∈ S, x ∈ st') (nd : (S.map (·.1)).Nodup) : SOk K (w0.at S) w := ⟨fun p b as m => h.own p b as (hS _ m), nd⟩
theorem Sl.part2 {K : PySem.W.Frag} {w : Wl} {σ : L2.St} {S st' : Store} (h : Sl K (w0.at st') w σ ss) (nd : (st.map (·.1)).Nodup) (hst : ∀ x ∈ st, x ∈ st') (hS : ∀ x ∈ S, x ∈ st') (ndS : (S.map (·.1)).Nodup) (dis : ∀ x ∈ S, Fresh st x.1) : Sl K (w0.at st) (w.frz S) σ ss := by
  have so : SOk K (w0.at S) w := h.so.some_ hS ndS
  refine ⟨⟨h.le.g.trans so.frz_g, h.le.h, fun b h1 h2 => ?_⟩, h.len, fun i a q => ?_, h.ap, h.fr, ⟨fun p b as m => ?_, nd⟩, fun i ds p e1 e2 b as m => h.sd i ds p e1 e2 b as (hst _ m)⟩
  · have z : b ∉ S.map (·.1) := fun z => by
      obtain ⟨t, as, m⟩ := mem_key z
      exact h1 (so.key m).1
    exact (frzG_out z).trans (h.le.hid b h1 h2)
  · obtain ⟨v, h1, h2⟩ := h.at_ i a q
    refine ⟨v, h1, ?_⟩
    by_cases hp : a.plain = true
    · exact Av.monoG so.frz_g hp h2
    · cases a with
      | buf ds =>
        obtain ⟨p, vs, rfl, g1, g2, g3⟩ := h2
        have z : p ∉ S.map (·.1) := fun z => by
          obtain ⟨t, as, m⟩ := mem_key z
          exact h.sd i ds p q h1 t as (hS _ m)
        exact ⟨p, vs, rfl, g1, (frzG_out z).trans g2, g3.mono so.frz_g⟩
      | _ => exact absurd rfl hp
  · obtain ⟨h0, hp, vs, h1, h2, h3⟩ := h.so.own p b as (hst _ m)
    have z : p ∉ S.map (·.1) := fun z => by
      obtain ⟨t, bs, m2⟩ := mem_key z
      exact dis _ m2 _ m rfl
    exact ⟨h0, hp, vs, h1, (frzG_out z).trans h2, AvA.monoG (w1 := w) (w2 := w.frz S) so.frz_g hp h3⟩
/-- what a comprehension of new lists leaves, as data -/
theorem me_partL {e : Expr} {R : Store → AV → Prop} (h : ME X w0 e st ss fun st' a => ∃ p dss qs, a = .at_ p ∧ LL st' p dss qs ∧ (∀ x ∈ st, x ∈ st') ∧ (∀ q ∈ p :: qs, Fresh st q) ∧ R st (.dat (.list (dss.map .list)))) : ME X w0 e st ss R :=
  PE.imp h fun σ H Q ⟨w, ew, hs, q⟩ => ⟨w, ew, hs, fun v a st' w1 e1 hs1 hv ⟨p, dss, qs, ea, hl, hst, hf, hr⟩ => by
    subst ea
    let S : Store := st'.filter fun x => decide (x.1 ∈ p :: qs)
    have hS : ∀ x ∈ S, x ∈ st' := fun x m => (List.mem_filter.mp m).1
    have nd : (S.map (·.1)).Nodup := by
      have z : (st'.map (·.1)).Nodup := hs1.so.nd
      exact List.Nodup.sublist (List.Sublist.map _ List.filter_sublist) z
    have dis : ∀ x ∈ S, Fresh st x.1 := fun x m => hf x.1 (of_decide_eq_true (List.mem_filter.mp m).2)
    have so : SOk X.K (w0.at S) w1 := hs1.so.some_ hS nd
    have hl2 : LL S p dss qs := ⟨List.mem_filter.mpr ⟨hl.mp, decide_eq_true List.mem_cons_self⟩, hl.len, fun j r ds e1 e2 => List.mem_filter.mpr ⟨hl.mq j r ds e1 e2, decide_eq_true (List.mem_cons_of_mem _ (List.mem_of_getElem? e1))⟩, hl.nd⟩
    exact q v (.dat (.list (dss.map .list))) st (w1.frz S) (e1.trans so.frz_g) (hs1.part2 hs.so.nd hst hS nd dis) (Spl.dd so hl2.spell hv) hr⟩
/-- [a new list for y in a list of the store] -/
theorem me_lcLO {y : Str} {py : Pos} {k : Nat} {elt iter : Expr} {scope : Scope} {R : Store → AV → Prop} (hc : X.calm = true) (hN : X.N.Nodup) (hb : nbS ss = true) (ok : BlkOk X.N X.env.scope scope [(y, k)])
    (hg : ∀ (s : Shared) (H : Hp) (C : Addr) (cl : List (Str × Addr)) (fp : List Addr), PG (X.blk s H scope (compEnvC scope cl C X.env) fp) (.Name y py) (gName k))
    (h : KE X (w0.at st) iter ss fun x => ∃ (L : Addr) (as : List AV) (dss : List (List PyData)), x = .at_ L ∧ (L, Ck.lst, as) ∈ st ∧ as.length ≤ 50000 ∧ dss.length = as.length ∧
      (∀ (i : Nat) (a : AV) (ds : List PyData) (st' : Store), as[i]? = some a → dss[i]? = some ds → (∀ x ∈ st, x ∈ st') → BNw X (w0.at st') scope elt ((wipeS ss [k]).set k (some a)) fun es => es = ds) ∧
      ∀ st' p qs, LL st' p dss qs → (∀ x ∈ st, x ∈ st') → (∀ q ∈ p :: qs, Fresh st q) → R st' (.at_ p))
    (hs : ∀ x, foldedSetIterable iter X.env x = pure x := by intro _; rfl) : ME X w0 (.ListComp elt [⟨.Name y py, iter, [], 0⟩] scope pos) st ss R := by
  refine me_lcO hc hN hb ok hg (KE.weak h fun x ⟨L, as, dss, ex, mL, hz, hl, ht, he⟩ => ?_) hs
  refine ⟨L, as, ex, mL, hz, fun D i st' acc => ∃ qs : List Addr, acc = qs.map AV.at_ ∧ (∀ x ∈ st, x ∈ st') ∧ qs.length = i ∧ (∀ (j : Nat) (q : Addr) (es : List PyData), qs[j]? = some q → dss[j]? = some es → (q, Ck.lst, es.map AV.dat) ∈ st') ∧ (D :: qs).Nodup ∧ (∀ q ∈ D :: qs, Fresh st q),
    fun D fD => ⟨[], rfl, fun x hx => List.mem_cons_of_mem _ hx, rfl, fun j q es e => (by simp at e), List.nodup_cons.mpr ⟨List.not_mem_nil, List.nodup_nil⟩, fun q hq => by rw [List.mem_singleton.mp hq]; exact fD⟩, fun D i st' acc ⟨qs, _, hst, _⟩ => hst _ mL, fun D i a st' acc ha mD hI => ?_, fun D st' acc mD hI => ?_⟩
  · obtain ⟨qs, rfl, hst, hl2, hm, hnd, hfr⟩ := hI
    have hi : i < dss.length := by rw [hl]; exact (List.getElem?_eq_some_iff.mp ha).1
    have hds : dss[i]? = some dss[i] := List.getElem?_eq_getElem hi
    intro s H C cl fp
    refine me_new (b := .lst) (PE.imp (ht i a dss[i] st' ha hds hst s H C cl fp) fun σ H Q ⟨w, ew, hs, q⟩ => ⟨w, ew, hs, fun p vs es w' l hn h1 h2 hd2 hr => q p vs (es.map .dat) w' l hn h1 h2 (AvA.ofDd hd2) plain_dats (fun p fp => ?_)⟩)
    subst hr
    have nD : p ≠ D := fun e => fp _ mD e.symm
    have nq : ∀ q ∈ qs, q ≠ p := fun q m e => by
      obtain ⟨j, hj⟩ := List.mem_iff_getElem?.mp m
      have hjl : j < dss.length := by
        have := (List.getElem?_eq_some_iff.mp hj).1
        omega
      exact fp _ (hm j q dss[j] hj (by simp [hjl])) e
    refine ⟨List.mem_cons_of_mem _ mD, qs ++ [p], by rw [List.map_append]; rfl, fun x hx => ?_, by rw [List.length_append, hl2]; rfl, fun j q es' e1 e2 => ?_, ?_, fun q hq => ?_⟩
    · obtain ⟨x1, x2, x3⟩ := x
      exact stSet_ne (List.mem_cons_of_mem _ (hst _ hx)) fun e => hfr D List.mem_cons_self _ hx e
    · by_cases hj : j < qs.length
      · rw [List.getElem?_append_left hj] at e1
        refine stSet_ne (List.mem_cons_of_mem _ (hm j q es' e1 e2)) fun e => (List.nodup_cons.mp hnd).1 (by rw [← e]; exact List.mem_of_getElem? e1)
      · rw [List.getElem?_append_right (by omega)] at e1
        have ej : j = qs.length := by
          have := (List.getElem?_eq_some_iff.mp e1).1
          rw [List.length_singleton] at this
          omega
        rw [ej, Nat.sub_self] at e1
        rw [ej, hl2, hds] at e2
        cases e1
        cases e2
        exact stSet_ne List.mem_cons_self nD
    · obtain ⟨n1, n2⟩ := List.nodup_cons.mp hnd
      refine List.nodup_cons.mpr ⟨fun m => ?_, List.nodup_append.mpr ⟨n2, List.nodup_cons.mpr ⟨List.not_mem_nil, List.nodup_nil⟩, fun a ha b hb e => ?_⟩⟩
      · rcases List.mem_append.mp m with m | m
        · exact n1 m
        · exact nD (List.mem_singleton.mp m).symm
      · rw [List.mem_singleton.mp hb] at e
        exact nq a ha e
    · rcases List.mem_cons.mp hq with e | hq
      · rw [e]; exact hfr D List.mem_cons_self
      · rcases List.mem_append.mp hq with m | m
        · exact hfr q (List.mem_cons_of_mem _ m)
        · rw [List.mem_singleton.mp m]
          exact fun x hx e => fp x (hst x hx) e
  · obtain ⟨qs, rfl, hst, hl2, hm, hnd, hfr⟩ := hI
    exact he st' D qs ⟨mD, by rw [hl2, hl], hm, hnd⟩ hst hfr
end
end Kp


namespace Kp
open PySem PySem.Spec PyProof.Rows L2
/-! ### methods, by their bodies -/
section
variable {base : Heap} {K : PySem.W.Frag} {w : World} {P : Program} {mg : Str → Option Value}
theorem okM {x qual : Str} {sm : Stmt} {N ps : List Str} {k : Nat} {f : Addr} {fd : FuncData} {C : Store → List AV → (Store → AV → Prop) → Prop} (F : Fun K x qual sm f fd) (S : FnScope N ps (defScope sm)) (len : ∀ st as R, C st as R → as.length = ps.length)
    (hbody : ∀ (cdv : Value) (A : Around) (outer : List Env) (s : Shared) (H : Hp) (E : XK) (w0 : Wl) (st : Store) (as : List AV) (R : Store → AV → Prop), Room k (A.deeper (envOfC qual (defScope sm) s.heap.objs.size f cdv)) → C st as R →
      MSs (cxB P w K mg base N qual (defScope sm) f cdv A outer s H E) w0 (defBody sm) st (ss0 N.length as) { nx := fun st' _ => R st' (.dat .none), rt := R }) : FnOk P w K mg base CX0 (k + 1) f fd ps (spM K C) := by
  refine F.ok S (fun vs H Q E ⟨w0, w1, st, as, R, e, l, o, hv, hc, q⟩ => by rw [hv.length]; exact len st as R hc.2) fun cdv A outer s H vs Q E hr ⟨w0, w1, st, as, R, e, l, o, hv, hc, q⟩ => ?_
  refine ⟨_, hbody cdv A outer s H E w0 st as R hr hc.2, w1, e, Sl.startM l o hv hc.1, ⟨fun σ' ss' st' w' eg hs hk => q .non (.dat .none) st' w' hs.le.unat eg hs.so .non hk, fun v a st' w' eg hl ho ha hr => q v a st' w' hl eg ho ha hr, fun _ _ _ _ _ _ h => h.elim, fun _ _ _ _ _ _ h => h.elim⟩⟩
/-- the method m of the class at C: its def, how it is bound -/
def Mt0 (K : PySem.W.Frag) (C : Addr) (m qual : Str) (st : Stmt) (ps : List Str) : Prop := ∃ (f : Addr) (fd : FuncData), Meth K C m f ∧ Fun K m qual st f fd ∧ Binds K fd ps []
/-- the class at C, called x, and its __init__ -/
def Mk0 (K : PySem.W.Frag) (mg : Str → Option Value) (x : Str) (C : Addr) (qual : Str) (st : Stmt) (ps : List Str) : Prop := ∃ (f : Addr) (fd : FuncData), Mk K C f ∧ mg x = some (.ref C) ∧ Fun K "__init__" qual st f fd ∧ Binds K fd ps []
theorem mtM {C0 : Addr} {m qual : Str} {sm : Stmt} {N ps : List Str} {k : Nat} {C : Store → List AV → (Store → AV → Prop) → Prop} (F : Mt0 K C0 m qual sm ps) (S : FnScope N ps (defScope sm)) (len : ∀ st as R, C st as R → as.length = ps.length)
    (hbody : ∀ (f : Addr) (cdv : Value) (A : Around) (outer : List Env) (s : Shared) (H : Hp) (E : XK) (w0 : Wl) (st : Store) (as : List AV) (R : Store → AV → Prop), Room k (A.deeper (envOfC qual (defScope sm) s.heap.objs.size f cdv)) → C st as R →
      MSs (cxB P w K mg base N qual (defScope sm) f cdv A outer s H E) w0 (defBody sm) st (ss0 N.length as) { nx := fun st' _ => R st' (.dat .none), rt := R }) : MtM P w K mg base C0 m (k + 1) C := by
  obtain ⟨f, fd, M, F, b⟩ := F
  exact ⟨f, fd, ps, M, okM F S len (hbody f), b⟩
theorem mkM {C0 : Addr} {x qual : Str} {sm : Stmt} {N ps : List Str} {k : Nat} {C : Store → List AV → (Store → AV → Prop) → Prop} (F : Mk0 K mg x C0 qual sm ps) (S : FnScope N ps (defScope sm)) (len : ∀ st as R, C st as R → as.length = ps.length)
    (hbody : ∀ (f : Addr) (cdv : Value) (A : Around) (outer : List Env) (s : Shared) (H : Hp) (E : XK) (w0 : Wl) (st : Store) (as : List AV) (R : Store → AV → Prop), Room k (A.deeper (envOfC qual (defScope sm) s.heap.objs.size f cdv)) → C st as R →
      MSs (cxB P w K mg base N qual (defScope sm) f cdv A outer s H E) w0 (defBody sm) st (ss0 N.length as) { nx := fun st' _ => R st' (.dat .none), rt := R }) : MkM P w K mg base x C0 (k + 1) C := by
  obtain ⟨f, fd, M, hm, F, b⟩ := F
  exact ⟨f, fd, ps, M, okM F S len (hbody f), hm, b⟩
end
/-- lists of data, as data or in the store -/
def ArgL (st : Store) (a : AV) (dss : List (List PyData)) : Prop := a = .dat (.list (dss.map .list)) ∨ ∃ p qs, a = .at_ p ∧ LL st p dss qs
def cCopy : Store → List AV → (Store → AV → Prop) → Prop := fun st as R => ∃ (dss : List (List PyData)) (a : AV), as = [a] ∧ ArgL st a dss ∧ dss.length ≤ 1000 ∧ ∀ st' p qs, LL st' p dss qs → (∀ x ∈ st, x ∈ st') → (∀ q ∈ p :: qs, Fresh st q) → R st' (.at_ p)
end Kp


namespace KpN
open PySem PySem.Spec PyProof.Rows PySem.SeqAt
open PySem.W (InstAt findIn isFn Looks CmpBack notFirst subIn mroIn looks_findIn looks_mroIn looks_subIn ifBound_K)
open Sem (wp)
open Builtin
section
variable {M : Model} {prog : Program} {w : World} {A : Around} {E : Value → Shared → Prop} {s : Shared} {K : PySem.W.Frag} {x C f : Addr} {ox : Obj} {od : Option Obj} {b : Value}
/-- the inherited != asks the own == -/
theorem entry_ne (hu : A.units < cLine) (X : K.In s.heap) (I : InstAt s.heap x ox C od) (hs : findIn K (.ref C) "__eq__" = some (some (.ref f))) (hf : isFn K (.ref f) = true) {Q : Fin → Shared → Prop}
    (h : wpAny (model prog w) A (call (.ref f) [.ref x, b]) (fun v s' => ∃ c, v = .bool c ∧ Q (.done (.ret (.bool (!c)))) s') E s) : wpAny (model prog w) A (Builtin.«object.__ne__» ⟨[.ref x, b], []⟩) Q E s := by
  have asked : wpAny (model prog w) A (callSpecialIfBound? (.ref x) (Str.ofString "__eq__") [b]) (fun r s' => ∃ c, r = some (.bool c) ∧ Q (.done (.ret (.bool (!c)))) s') E s :=
    ifBound_K X I hs hf (wpAny_mono h (fun v s' ⟨c, ev, hq⟩ => ⟨c, by rw [ev], hq⟩) fun _ _ q => q)
  unfold Builtin.«object.__ne__»
  repeat (first
    | exact wpAny_bind (wpAny_mono asked (fun r s' ⟨c, er, hq⟩ => by
        subst er
        repeat (first | exact hq | exact wpAny_truthy_bool hq | refine wpAny_bind (m := truthy (.bool _)) (wpAny_truthy_bool ?_) | wp_step)) fun _ _ q => q)
    | with_reducible exact wpAny_cRoomFor hu (by assumption)
    | refine wpAny_bind (wpAny_cRoomFor hu ?_)
    | wp_step)
theorem call_ne (hu : A.units + 1 < cLine) (X : K.In s.heap) (I : InstAt s.heap x ox C od) (hm : mroIn K C (.type "object") = some true) (hs : findIn K (.ref C) "__eq__" = some (some (.ref f))) (hf : isFn K (.ref f) = true) {Q : Value → Shared → Prop}
    (h : wpAny (model prog w) A.in1 (call (.ref f) [.ref x, b]) (fun v s' => ∃ c, v = .bool c ∧ Q (.bool (!c)) s') E s) : wpAny (model prog w) A (call (.builtin "object.__ne__") [.ref x, b]) Q E s :=
  wpAny_call (codeAny_call_builtin F.cmp_object.ne.plain F.cmpEntry_ne (PySem.W.check_slot F.cmpKind_ne F.cmpSplit_ne (I.type.andThen (looks_mroIn X hm)) (F.cmpArgs_ne _ _) (entry_ne (A := A.in1) hu X I hs hf (wpAny_mono h (fun v s' hv => by
    obtain ⟨c, rfl, hq⟩ := hv
    first | exact ⟨c, rfl, wpAny_pure hq⟩ | exact ⟨c, rfl, hq⟩) fun _ _ e => e))))
theorem ifBound_ne {args : List Value} {Q : Option Value → Shared → Prop} (X : K.In s.heap) (I : InstAt s.heap x ox C od) (hs : findIn K (.ref C) "__ne__" = some (some (.builtin "object.__ne__")))
    (h : wpAny M A (call (.builtin "object.__ne__") (.ref x :: args)) (fun v => Q (some v)) E s) : wpAny M A (callSpecialIfBound? (.ref x) "__ne__" args) Q E s := by
  have after : wpAny M A (call (.builtin "object.__ne__") ([.ref x] ++ args) >>= fun v => pure (some v)) Q E s := wpAny_bind (wpAny_mono h (fun v s' q => wpAny_pure q) fun _ _ q => q)
  have bound := F.cmp_object.ne.bind (.ref x)
  unfold callSpecialIfBound? bindSpecialIfBound?
  refine wpAny_holding (wpAny_bind (wpAny_bind (wpAny_bind (I.type.here ((looks_findIn X hs).here (wpAny_bind (wpAny_askSetting (wpAny_ite ?_))))))))
  split <;> first
    | exact wpAny_bind (wpAny_of_eq bound (wpAny_pure (by exact after)))
    | exact wpAny_tryCatch (wpAny_bind (wpAny_of_eq bound (wpAny_pure (by exact after))))
/-- != of an instance that has it of object alone, and of whatever is no instance of a class below -/
theorem rich_ne {tb : Value} {Q : Value → Shared → Prop} (hu : A.units + 1 < cLine) (X : K.In s.heap) (I : InstAt s.heap x ox C od) (hb : Looks (model prog w) s.heap (typeOf b) tb) (hn : notFirst K C tb = true) (hm : mroIn K C (.type "object") = some true)
    (hne : findIn K (.ref C) "__ne__" = some (some (.builtin "object.__ne__"))) (hs : findIn K (.ref C) "__eq__" = some (some (.ref f))) (hf : isFn K (.ref f) = true)
    (h : wpAny (model prog w) A.in1 (call (.ref f) [.ref x, b]) (fun v s' => ∃ c, v = .bool c ∧ Q (.bool (!c)) s') E s) : wpAny (model prog w) A (richCompare .NotEq (.ref x) b) Q E s := by
  have asked : wpAny (model prog w) A (tryCompare (.ref x) "__ne__" b) (fun r s' => ∃ c : Bool, r = some (.bool c) ∧ Q (.bool c) s') E s := by
    unfold tryCompare
    exact wpAny_bind (ifBound_ne X I hne (call_ne hu X I hm hs hf (wpAny_mono h (fun v s' ⟨c, ev, hq⟩ => ⟨c, ev, wpAny_pure ⟨!c, rfl, hq⟩⟩) fun _ _ q => q)))
  have below : tb ≠ .ref C → subIn K tb (.ref C) = some false := fun ne => by
    unfold notFirst at hn
    simp only [Bool.or_eq_true, beq_iff_eq] at hn
    exact hn.resolve_left ne
  unfold richCompare
  simp only [oneThing_ref, cmpInfo_NotEq]
  refine wpAny_holding (wpAny_bind (wpAny_cRoomFor (Nat.lt_of_succ_lt hu) (wpAny_bind (I.type.here (wpAny_bind (hb.here ?_))))))
  by_cases same : tb = .ref C
  · subst same
    rw [if_neg (by simp)]
    refine wpAny_bind (wpAny_pure ?_)
    rw [if_neg Bool.false_ne_true]
    exact wpAny_bind (wpAny_mono asked (fun r s' ⟨c, er, hq⟩ => by subst er; exact wpAny_pure hq) fun _ _ q => q)
  · rw [if_pos (by simpa using fun e => same e.symm)]
    refine wpAny_bind ((looks_subIn X (below same)).here ?_)
    rw [if_neg Bool.false_ne_true]
    exact wpAny_bind (wpAny_mono asked (fun r s' ⟨c, er, hq⟩ => by subst er; exact wpAny_pure hq) fun _ _ q => q)
end
end KpN
namespace Kp
open PySem PySem.Spec PyProof.Rows L2
section
variable {X : Cx} {CX : CXT} {C f : Addr} {n : Nat} {sp : Sp} {E : XK}
/-- x == y, x an instance of the class at C whose own == is at f; y anything that is no instance of a class below C -/
def rOwnI (K : PySem.W.Frag) (C : Addr) (sp : Sp) (E : XK) : R2 := fun x y H Q => ∃ a dx fs t, x = .ref a ∧ H a = some (.ins C dx fs) ∧ TyX K H y t ∧ PySem.W.notFirst K C t = true ∧ sp [x, y] H Q E
theorem op_eqI (hs : PySem.W.findIn X.K (.ref C) "__eq__" = some (some (.ref f))) (hf : PySem.W.isFn X.K (.ref f) = true) (F : FnR X.prog X.w X.K X.mg X.base CX n f sp) (hr : Room n X.A) (hx : Passes CX X E) : OpR X (compareOp .Eq) (rOwnI X.K C sp E) := by
  intro pins s σ H x y v u Q I rx ry h
  obtain ⟨a, dx, fs, t, rfl, ha, ty, hn, q⟩ := h
  cases (show v = Value.ref a from rx)
  obtain ⟨mA, J, _⟩ := ins_get I.hok ha
  obtain ⟨od, J, _⟩ := J.look
  obtain ⟨m, hF⟩ := I.fr
  obtain ⟨P, Z, p, _⟩ := kit_of I ry ty
  refine PySem.W.cmp_K (op := .Eq) (tb := t) hr.units0 hF I.ok.mod.kin J (Z.ty _ _ I.kIn p) hn hs hf ?_
  refine wpAny_mono (wpAny_call (run_fnR (us := [.ref a, u]) (vs := [.ref a, y]) F hr hx I (.cons rfl (.cons ry .nil)) q)) (fun w s' z => ?_) fun _ _ x => x
  obtain ⟨z', H', I', rz, qz⟩ := z
  exact SlX.cmpback rz ⟨z', H', I', rz, qz⟩
/-- x != y: the inherited one asks the own == -/
def rNeI (K : PySem.W.Frag) (C : Addr) (sp : Sp) (E : XK) : R2 := fun x y H Q => ∃ a dx fs t, x = .ref a ∧ H a = some (.ins C dx fs) ∧ TyX K H y t ∧ PySem.W.notFirst K C t = true ∧ sp [x, y] H (fun z H' => ∃ c, z = .bl c ∧ Q (.bl (!c)) H') E
theorem op_neI (hm : PySem.W.mroIn X.K C (.type "object") = some true) (hne : PySem.W.findIn X.K (.ref C) "__ne__" = some (some (.builtin "object.__ne__"))) (hs : PySem.W.findIn X.K (.ref C) "__eq__" = some (some (.ref f))) (hf : PySem.W.isFn X.K (.ref f) = true) (F : FnR X.prog X.w X.K X.mg X.base CX n f sp) (hr : Room (n + 1) X.A) (hx : Passes CX X E) : OpR X (compareOp .NotEq) (rNeI X.K C sp E) := by
  intro pins s σ H x y v u Q I rx ry h
  obtain ⟨a, dx, fs, t, rfl, ha, ty, hn, q⟩ := h
  cases (show v = Value.ref a from rx)
  obtain ⟨mA, J, _⟩ := ins_get I.hok ha
  obtain ⟨od, J, _⟩ := J.look
  obtain ⟨P, Z, p, _⟩ := kit_of I ry ty
  refine KpN.rich_ne (tb := t) (by have := hr.un; omega) I.kIn J (Z.ty _ _ I.kIn p) hn hm hne hs hf ?_
  refine wpAny_mono (wpAny_call (SlX.run_at (us := [.ref a, u]) (ws := [.ref a, y]) F (show Room n X.A.in1 from hr.in1) I.env0.in1 hx I (.cons rfl (.cons ry .nil)) q)) (fun w s' z => ?_) fun _ _ x => x
  obtain ⟨z', H', I', rz, c, ez, qz⟩ := z
  subst ez
  cases (show w = Value.bool c from rz)
  exact ⟨c, rfl, .bl (!c), H', I', rfl, qz⟩
/-- len(x) by an own __len__ -/
def rLenI (C : Addr) (sp : Sp) (E : XK) : List V → Hp → VK → Prop := fun xs H Q => ∃ a dx fs, xs = [V.ref a] ∧ H a = some (.ins C dx fs) ∧ sp [.ref a] H (fun z H' => ∃ i : Int, z = .int i ∧ (0 ≤ i ∧ i < 2 ^ 63) ∧ Q z H') E
theorem call_lenI (hs : PySem.W.findIn X.K (.ref C) "__len__" = some (some (.ref f))) (hf : PySem.W.isFn X.K (.ref f) = true) (F : FnR X.prog X.w X.K X.mg X.base CX n f sp) (hr : Room (n + 1) X.A) (hx : Passes CX X E) : CallR X (.builtin "len") (rLenI C sp E) := by
  intro pins s σ H xs us Q I r h
  obtain ⟨a, dx, fs, rfl, ha, q⟩ := h
  obtain ⟨u, rfl, ru⟩ := r.one
  cases (show u = Value.ref a from ru)
  obtain ⟨mA, J, _⟩ := ins_get I.hok ha
  obtain ⟨od, J, _⟩ := J.look
  obtain ⟨m, hF⟩ := I.fr
  refine PySem.W.len_K hF I.ok.mod.kin J hs hf (wpAny_mono (wpAny_call (SlX.run_at (us := [.ref a]) (ws := [.ref a]) F (show Room n X.A.in1 from hr.in1) I.env0.in1 hx I (.cons rfl .nil) q)) (fun w s' z => ?_) fun _ _ x => x)
  obtain ⟨z', H', I', rz, i, ei, hi, qz⟩ := z
  subst ei
  obtain ⟨t, e⟩ := (show ∃ t, w = Value.int i t from rz)
  subst e
  exact ⟨hi, .int i, H', I'.tok _, ⟨_, rfl⟩, qz⟩
/-- repr(x) by an own __repr__ -/
def rReprI (C : Addr) (sp : Sp) (E : XK) : List V → Hp → VK → Prop := fun xs H Q => ∃ a dx fs, xs = [V.ref a] ∧ H a = some (.ins C dx fs) ∧ sp [.ref a] H (fun z H' => ∃ t : Str, z = .str t ∧ Q z H') E
theorem call_reprI (hs : PySem.W.findIn X.K (.ref C) "__repr__" = some (some (.ref f))) (hf : PySem.W.isFn X.K (.ref f) = true) (F : FnR X.prog X.w X.K X.mg X.base CX n f sp) (hr : Room (n + 1) X.A) (hx : Passes CX X E) : CallR X (.builtin "repr") (rReprI C sp E) := by
  intro pins s σ H xs us Q I r h
  obtain ⟨a, dx, fs, rfl, ha, q⟩ := h
  obtain ⟨u, rfl, ru⟩ := r.one
  cases (show u = Value.ref a from ru)
  obtain ⟨mA, J, _⟩ := ins_get I.hok ha
  obtain ⟨od, J, _⟩ := J.look
  obtain ⟨m, hF⟩ := I.fr
  refine PySem.W.repr_K (by have := hr.un; show X.A.units + 1 < cLine; omega) hF I.ok.mod.kin J hs hf (wpAny_mono (wpAny_call (SlX.run_at (us := [.ref a]) (ws := [.ref a]) F (show Room n X.A.in1 from hr.in1) I.env0.in1 hx I (.cons rfl .nil) q)) (fun w s' z => ?_) fun _ _ x => x)
  obtain ⟨z', H', I', rz, i, ei, qz⟩ := z
  subst ei
  obtain ⟨t, e⟩ := (show ∃ t, w = Value.str i t from rz)
  subst e
  exact ⟨.str i, H', I', ⟨_, rfl⟩, qz⟩
end
end Kp


namespace Kp
open PySem PySem.Spec PyProof.Rows L2
section
variable {X : Cx} {C f : Addr} {n : Nat} {fd : FuncData} {ps : List Str} {sp : Sp} {E : XK}
/-- the callee runs below the running body, nothing shown around -/
theorem run_atG {pins : List (Addr × Obj)} {σ : L2.St} {H : Hp} {s : Shared} {A : Around} {Q : VK} {us : List Value} {ws : List V} (F : FnG X.prog X.w X.K X.mg X.base n f fd ps sp) (hb : Binds X.K fd ps []) (hg : A.guards = some []) (hr : Room n A) (e0 : Env0 X.prog X.w X.K X.mg X.base A X.stack s H) (I : Inv X pins σ H s) (r : Vals ws us) (h : sp ws H Q E) :
    codeAny (model X.prog X.w) A (.call (.ref f) ⟨us, []⟩) (fun r s' => match r with | .ok (.ret v) => EP X pins σ Q v s' | .ok _ => False | .error e => X.xe e s') s := by
  have hl : (us ++ []).length = ps.length := by rw [List.append_nil, ← r.length]; exact F.len _ _ _ _ h
  have bd := hb s us I.kIn hl
  rw [List.append_nil] at bd
  refine codeAny_mono (F.run A X.stack s H ⟨us, []⟩ us ws Q E hg hr e0 bd r h) fun r s' hq => ?_
  cases r with
  | error e => exact hq.elim
  | ok fl =>
    cases fl with
    | ret u => exact I.after hq
    | next => exact False.elim hq
    | brk => exact False.elim hq
    | cont => exact False.elim hq
theorem call_reprG (hs : PySem.W.findIn X.K (.ref C) "__repr__" = some (some (.ref f))) (hf : PySem.W.isFn X.K (.ref f) = true) (F : FnG X.prog X.w X.K X.mg X.base n f fd ps sp) (hb : Binds X.K fd ps []) (hg : X.A.guards = some []) (hr : Room (n + 1) X.A) : CallR X (.builtin "repr") (rReprI C sp E) := by
  intro pins s σ H xs us Q I r h
  obtain ⟨a, dx, fs, rfl, ha, q⟩ := h
  obtain ⟨u, rfl, ru⟩ := r.one
  cases (show u = Value.ref a from ru)
  obtain ⟨mA, J, _⟩ := ins_get I.hok ha
  obtain ⟨od, J, _⟩ := J.look
  obtain ⟨m, hF⟩ := I.fr
  refine PySem.W.repr_K (by have := hr.un; show X.A.units + 1 < cLine; omega) hF I.ok.mod.kin J hs hf (wpAny_mono (wpAny_call (run_atG (us := [.ref a]) (ws := [.ref a]) (E := E) F hb (show X.A.in1.guards = some [] from hg) (show Room n X.A.in1 from hr.in1) I.env0.in1 I (.cons rfl .nil) q)) (fun w s' z => ?_) fun _ _ x => x)
  obtain ⟨z', H', I', rz, i, ei, qz⟩ := z
  subst ei
  obtain ⟨t, e⟩ := (show ∃ t, w = Value.str i t from rz)
  subst e
  exact ⟨.str i, H', I', ⟨_, rfl⟩, qz⟩
/-! ### f-strings -/
variable {w0 : Wl} {ss : SS} {pos : Pos}
def KJ (X : Cx) (w0 : Wl) (ss : SS) : List Expr → Str → (Str → Prop) → Prop
  | [], acc, R => R acc
  | e :: es, acc, R => KE X w0 e ss fun a => ∃ y : Str, a = .dat (.str y) ∧ (acc ++ y).length ≤ 16777216 ∧ KJ X w0 ss es (acc ++ y) R
theorem pj_an : ∀ es : List Expr, PJ X es (es.map fun e => anE X w0 e ss)
  | [] => .nil
  | e :: es => .cons pe_an (pj_an es)
theorem kj_run {σ : L2.St} {Q : Str → Hp → Prop} {R : Str → Prop} : ∀ (es : List Expr) (acc : Str) (w : Wl), Sl X.K w0 w σ ss → KJ X w0 ss es acc R → (∀ out w', Le w w' → R out → Q out w'.h) → tJs (es.map fun e => anE X w0 e ss) acc σ w.h Q
  | [], acc, w, hs, h, q => q acc w (Le.refl w) h
  | e :: es, acc, w, hs, h, q => ⟨_, h, w, rfl, hs, fun v a w1 l1 hv ⟨y, ea, hz, hk⟩ => by
    subst ea
    cases hv
    exact ⟨y, rfl, by rw [sizeLine_eq]; exact hz, kj_run es (acc ++ y) w1 (hs.mono l1) hk fun out w' l hr => q out w' (l1.trans l) hr⟩⟩
theorem k_joined {v1 v2 : Expr} {rest : List Expr} {R : AV → Prop} (h : KJ X w0 ss (v1 :: v2 :: rest) Str.empty fun z => R (.dat (.str z))) : KE X w0 (.JoinedStr (v1 :: v2 :: rest) pos) ss R :=
  PE.imp (pe_joined (pj_an (w0 := w0) (ss := ss) (v1 :: v2 :: rest))) fun σ H Q ⟨w, ew, hs, q⟩ => by
    subst ew
    exact kj_run (v1 :: v2 :: rest) Str.empty w hs h fun out w' l hr => q (.str out) (.dat (.str out)) w' l (.str out) hr
/-- {e!r} of a list -/
def tFmtD (K : PySem.W.Frag) (te : TE) : TE := fun σ H Q => te σ H fun x H1 => ∃ a ds, x = .ref a ∧ Dd K H1 (.ref a) (.list ds) ∧ (PyData.list ds).showable = true ∧ (PyData.list ds).depth ≤ 20 ∧ (PyData.list ds).shown.length ≤ sizeLine ∧ Q (.str (PyData.list ds).shown) H1
theorem pe_fmtD {e : Expr} {te : TE} (hg : X.A.guards = some []) (hu : X.A.units + 64 < cLine) (he : PE X e te) : PE X (.FormattedValue e 114 none pos) (tFmtD X.K te) := by
  refine ⟨fun pins s σ H Q I h => ?_⟩
  refine wpAny_FormattedValue_repr (thn (he.run pins s σ H _ I h) fun v s1 hv => ?_)
  obtain ⟨x, H1, I1, r1, a, ds, rfl, hd, h1, h2, h3, q⟩ := hv
  cases (show v = Value.ref a from r1)
  obtain ⟨T, idr, S⟩ := showsBy_dd I1 hd h1 h3
  refine wpAny_pyReprObj_slot (by omega) (S.typeIs s1 fun _ _ e => e) S.slotRepr (S.call _ _ s1 _ hg (by omega) (fun _ _ e => e) fun h' u tk hk => ⟨_, _, rfl, ?_⟩)
  have I2 : Inv X pins σ H1 { s1 with heap := h', toks := tk } := I1.kept hk
  exact wpAny_formatField_str ⟨.str _, H1, I2, ⟨_, rfl⟩, q⟩ ⟨.str _, H1, I2.tok _, ⟨_, rfl⟩, q⟩ h3
theorem k_fmtR {e : Expr} {R : AV → Prop} (hg : X.A.guards = some []) (hu : X.A.units + 64 < cLine) (h : KE X w0 e ss fun a => ∃ ds, a = .dat (.list ds) ∧ (PyData.list ds).showable = true ∧ (PyData.list ds).depth ≤ 20 ∧ (PyData.list ds).shown.length ≤ 16777216 ∧ R (.dat (.str (PyData.list ds).shown))) : KE X w0 (.FormattedValue e 114 none pos) ss R :=
  PE.imp (pe_fmtD hg hu h) fun σ H Q ⟨w, ew, hs, q⟩ => ⟨w, ew, hs, fun v a w1 l1 hv ⟨ds, ea, h1, h2, h3, hr⟩ => by
    subst ea
    have hv0 : Dd X.K w1.g v (.list ds) := hv
    cases hv with
    | lst g1 g2 => exact ⟨_, ds, rfl, Dd.mono w1.sub hv0, h1, h2, by rw [sizeLine_eq]; exact h3, q (.str _) (.dat (.str _)) w1 l1 (.str _) hr⟩⟩
end
end Kp


namespace Kp
open PySem PySem.Spec PyProof.Rows L2
/-! ### instances under operators and built-ins -/
/-- a method by what it does to data -/
def MtA (P : Program) (w : World) (K : PySem.W.Frag) (mg : Str → Option Value) (base : Heap) (C : Addr) (m : Str) (k : Nat) (Ct : List AV → (AV → Prop) → Prop) : Prop := ∃ (f : Addr) (fd : FuncData) (ps : List Str),
  Meth K C m f ∧ FnOk P w K mg base CX0 k f fd ps (spA K Ct) ∧ Binds K fd ps []
/-- the same where nothing is being shown -/
def MtG (P : Program) (w : World) (K : PySem.W.Frag) (mg : Str → Option Value) (base : Heap) (C : Addr) (m : Str) (k : Nat) (Ct : List AV → (AV → Prop) → Prop) : Prop := ∃ (f : Addr) (fd : FuncData) (ps : List Str),
  Meth K C m f ∧ FnG P w K mg base k f fd ps (spA K Ct) ∧ Binds K fd ps []
section
variable {base : Heap} {K : PySem.W.Frag} {w : World} {P : Program} {mg : Str → Option Value}
theorem mtA {C0 : Addr} {m qual : Str} {sm : Stmt} {N ps : List Str} {k : Nat} {C : List AV → (AV → Prop) → Prop} (F : Mt0 K C0 m qual sm ps) (S : FnScope N ps (defScope sm)) (len : ∀ as R, C as R → as.length = ps.length)
    (hbody : ∀ (f : Addr) (cdv : Value) (A : Around) (outer : List Env) (s : Shared) (H : Hp) (E : XK) (w0 : Wl) (as : List AV) (R : AV → Prop), Room k (A.deeper (envOfC qual (defScope sm) s.heap.objs.size f cdv)) → C as R →
      KSs (cxB P w K mg base N qual (defScope sm) f cdv A outer s H E) w0 (defBody sm) (ss0 N.length as) { nx := fun _ => R (.dat .none), rt := R }) : MtA P w K mg base C0 m (k + 1) C := by
  obtain ⟨f, fd, M, F, b⟩ := F
  exact ⟨f, fd, ps, M, okA F S len (hbody f), b⟩
theorem mtG {C0 : Addr} {m qual : Str} {sm : Stmt} {N ps : List Str} {k : Nat} {C : List AV → (AV → Prop) → Prop} (F : Mt0 K C0 m qual sm ps) (S : FnScope N ps (defScope sm)) (len : ∀ as R, C as R → as.length = ps.length)
    (hbody : ∀ (f : Addr) (cdv : Value) (A : Around) (outer : List Env) (s : Shared) (H : Hp) (E : XK) (w0 : Wl) (as : List AV) (R : AV → Prop), A.guards = some [] → Room k (A.deeper (envOfC qual (defScope sm) s.heap.objs.size f cdv)) → C as R →
      KSs (cxB P w K mg base N qual (defScope sm) f cdv A outer s H E) w0 (defBody sm) (ss0 N.length as) { nx := fun _ => R (.dat .none), rt := R }) : MtG P w K mg base C0 m (k + 1) C := by
  obtain ⟨f, fd, M, F, b⟩ := F
  exact ⟨f, fd, ps, M, okGA F S len (hbody f), b⟩
end
section
variable {X : Cx} {C : Addr} {k j : Nat} {Ct : List AV → (AV → Prop) → Prop} {w0 : Wl} {ss : SS} {pos : Pos}
/-- what stands at the other side -/
def OthI (K : PySem.W.Frag) (C : Addr) (y : AV) : Prop := (∃ ds, y = .ins C ds) ∨ ∃ d, y = .dat d ∧ PySem.W.subIn K (.type (tyD d)) (.ref C) = some false
theorem OthI.ty {K : PySem.W.Frag} {C : Addr} {y : AV} {w : Wl} {v : V} (c : C8.InsC K C) (h : OthI K C y) (hv : Av K w v y) : ∃ t, TyX K w.h v t ∧ PySem.W.notFirst K C t = true := by
  rcases h with ⟨ds, rfl⟩ | ⟨d, rfl, hs⟩
  · obtain ⟨a, dx, fs, rfl, h1, h2⟩ := hv
    exact ⟨.ref C, .base (.ins (w.sub _ _ h1) c.cl c.ha c.hn c.htk c.hm), by simp [PySem.W.notFirst]⟩
  · refine ⟨.type (tyD d), Dd.ty (Dd.mono w.sub hv), ?_⟩
    unfold PySem.W.notFirst
    rw [hs]
    simp
theorem OthI.plain {K : PySem.W.Frag} {C : Addr} {y : AV} (h : OthI K C y) : y.plain = true := by
  rcases h with ⟨ds, rfl⟩ | ⟨d, rfl, _⟩ <;> rfl
abbrev eqIS (K : PySem.W.Frag) (C : Addr) (Ct : List AV → (AV → Prop) → Prop) (neg : Bool) (x y : AV) (R : Bool → Prop) : Prop := (∃ ds, x = .ins C ds) ∧ OthI K C y ∧ Ct [x, y] fun a => ∃ b, a = .dat (.bool b) ∧ R (b ^^ neg)
theorem dc_eqI (c : C8.InsC X.K C) (M : MtA X.prog X.w X.K X.mg X.base C "__eq__" k Ct) (hr : Room j X.A) (hk : k ≤ j) : DCmp X .Eq (eqIS X.K C Ct false) := by
  obtain ⟨f, fd, ps, M, F, b⟩ := M
  refine ⟨_, op_eqI (E := (fun _ _ _ => False : XK)) M.at_ M.fn (F.raw b .nil) (hr.mono hk) pass0, fun x y R ⟨⟨ds, ex⟩, ho, hC⟩ vx vy w Q ax ay q => ?_⟩
  subst ex
  obtain ⟨t, ty, nf⟩ := ho.ty c ay
  have ax0 := ax
  obtain ⟨a, dx, fs, rfl, h1, h2⟩ := ax
  refine ⟨a, dx, fs, t, rfl, w.sub _ _ h1, ty, nf, w, _, _, rfl, ?_, ⟨?_, hC⟩, fun v z w' l hv ⟨b, ez, hr⟩ => ?_⟩
  · exact .cons ax0 (.cons ay .nil)
  · rw [List.all_cons, List.all_cons, ho.plain]; rfl
  · subst ez
    rw [Bool.xor_false] at hr
    exact q v _ w' l hv hr
theorem dc_neI (c : C8.InsC X.K C) (hne : PySem.W.findIn X.K (.ref C) "__ne__" = some (some (.builtin "object.__ne__"))) (M : MtA X.prog X.w X.K X.mg X.base C "__eq__" k Ct) (hr : Room j X.A) (hk : k + 1 ≤ j) : DCmp X .NotEq (eqIS X.K C Ct true) := by
  obtain ⟨f, fd, ps, M, F, b⟩ := M
  refine ⟨_, op_neI (E := (fun _ _ _ => False : XK)) c.hm hne M.at_ M.fn (F.raw b .nil) (hr.mono hk) pass0, fun x y R ⟨⟨ds, ex⟩, ho, hC⟩ vx vy w Q ax ay q => ?_⟩
  subst ex
  obtain ⟨t, ty, nf⟩ := ho.ty c ay
  have ax0 := ax
  obtain ⟨a, dx, fs, rfl, h1, h2⟩ := ax
  refine ⟨a, dx, fs, t, rfl, w.sub _ _ h1, ty, nf, w, _, _, rfl, ?_, ⟨?_, hC⟩, fun v z w' l hv ⟨b, ez, hr⟩ => ?_⟩
  · exact .cons ax0 (.cons ay .nil)
  · rw [List.all_cons, List.all_cons, ho.plain]; rfl
  · subst ez
    cases hv
    rw [Bool.xor_true] at hr
    exact ⟨b, rfl, q _ (.dat (.bool (!b))) w' l (.bl _) hr⟩
abbrev lenIS (C : Addr) (Ct : List AV → (AV → Prop) → Prop) (as : List AV) (R : AV → Prop) : Prop := ∃ ds, as = [.ins C ds] ∧ Ct [.ins C ds] fun a => ∃ i : Int, a = .dat (.int i) ∧ (0 ≤ i ∧ i < 2 ^ 63) ∧ R (.dat (.int i))
theorem dl_lenI (M : MtA X.prog X.w X.K X.mg X.base C "__len__" k Ct) (hr : Room j X.A) (hk : k + 1 ≤ j) : DCl X (.builtin "len") (lenIS C Ct) := by
  obtain ⟨f, fd, ps, M, F, b⟩ := M
  refine ⟨_, call_lenI (E := (fun _ _ _ => False : XK)) M.at_ M.fn (F.raw b .nil) (hr.mono hk) pass0, fun xs R ⟨ds, ex, hC⟩ vs w Q av q => ?_⟩
  subst ex
  obtain ⟨v, rfl, hv⟩ := av.one
  have hv0 := hv
  obtain ⟨a, dx, fs, rfl, h1, h2⟩ := hv
  refine ⟨a, dx, fs, rfl, w.sub _ _ h1, w, _, _, rfl, .cons hv0 .nil, ⟨rfl, hC⟩, fun v z w' l hv ⟨i, ez, hi, hr⟩ => ?_⟩
  subst ez
  cases hv
  exact ⟨i, rfl, hi, q _ (.dat (.int i)) w' l (Dd.int i) hr⟩
abbrev reprIS (C : Addr) (Ct : List AV → (AV → Prop) → Prop) (as : List AV) (R : AV → Prop) : Prop := ∃ ds, as = [.ins C ds] ∧ Ct [.ins C ds] fun a => ∃ t : Str, a = .dat (.str t) ∧ R (.dat (.str t))
theorem dl_reprI (M : MtG X.prog X.w X.K X.mg X.base C "__repr__" k Ct) (hg : X.A.guards = some []) (hr : Room j X.A) (hk : k + 1 ≤ j) : DCl X (.builtin "repr") (reprIS C Ct) := by
  obtain ⟨f, fd, ps, M, F, b⟩ := M
  refine ⟨_, call_reprG (E := (fun _ _ _ => False : XK)) M.at_ M.fn F b hg (hr.mono hk), fun xs R ⟨ds, ex, hC⟩ vs w Q av q => ?_⟩
  subst ex
  obtain ⟨v, rfl, hv⟩ := av.one
  have hv0 := hv
  obtain ⟨a, dx, fs, rfl, h1, h2⟩ := hv
  refine ⟨a, dx, fs, rfl, w.sub _ _ h1, w, _, _, rfl, .cons hv0 .nil, ⟨rfl, hC⟩, fun v z w' l hv ⟨i, ez, hr⟩ => ?_⟩
  subst ez
  cases hv
  exact ⟨i, rfl, q _ (.dat (.str i)) w' l (Dd.str i) hr⟩
/-- isinstance(e, X), X an own class; e an instance of it, or data -/
theorem k_isiC {e : Expr} {x : Str} {p p2 : Pos} {R : AV → Prop} (c : C8.InsC X.K C) (hg : Gl X "isinstance") (hm : X.mg "isinstance" = none) (hg2 : Gl X x) (hm2 : X.mg x = some (.ref C))
    (h : KE X w0 e ss fun a => (∃ ds, a = .ins C ds ∧ R (.dat (.bool true))) ∨ ∃ d, a = .dat d ∧ PySem.W.kitOne X.K (.type (tyD d)) (.ref C) = some false ∧ R (.dat (.bool false))) (hdb : (x == ("__debug__" : Str)) = false := by decide)
    (he : starEach [e, .Name x p2] X.env = (false, eval e X.env) :: starEach [.Name x p2] X.env := by rfl) (hpl : (backTo pos (starEach [.Name x p2] X.env)).any (·.1) = false := by rfl)
    (he2 : starEach [.Name x p2] X.env = (false, eval (.Name x p2) X.env) :: starEach [] X.env := by rfl) : KE X w0 (.Call (.Name "isinstance" p) [e, .Name x p2] [] pos) ss R :=
  PE.imp (pe_callB call_isi hg hm (by decide +kernel) (pa_cons h (pa_cons (pe_glob hg2 hm2 (v := .ref C) rfl hdb) pa_nil he2) he) (by decide) (by decide) he hpl) fun σ H Q ⟨w, ew, hs, q⟩ => ⟨w, ew, hs, fun v a w1 l1 hv hk => by
    rcases hk with ⟨ds, rfl, hr⟩ | ⟨d, rfl, hk, hr⟩
    · obtain ⟨a, dx, fs, rfl, h1, h2⟩ := hv
      exact ⟨.ref a, .ref C, _, _, true, rfl, .own C, .base (.ins (w1.sub _ _ h1) c.cl c.ha c.hn c.htk c.hm), c.me, q (.bl true) (.dat (.bool true)) w1 l1 (.bl true) hr⟩
    · exact ⟨v, .ref C, _, _, false, rfl, .own C, Dd.ty (Dd.mono w1.sub hv), hk, q (.bl false) (.dat (.bool false)) w1 l1 (.bl false) hr⟩⟩
/-- no built-in type of data is below an own class -/
theorem sub_ty {K : PySem.W.Frag} {C : Addr} (d : PyData) : PySem.W.subIn K (.type (tyD d)) (.ref C) = some false := by
  have e : ∀ T ∈ (["NoneType", "bool", "int", "str", "list", "tuple", "dict"] : List String), PySem.W.subIn K (.type T) (.ref C) = some false := fun T hT => by
    simp only [List.mem_cons, List.not_mem_nil, or_false] at hT
    rcases hT with rfl | rfl | rfl | rfl | rfl | rfl | rfl
    · exact HN.sub_none
    · show (fastBuiltinMro "bool").map (·.contains (.ref C)) = some false
      rw [show fastBuiltinMro "bool" = some [.type "bool", .type "int", .type "object"] by decide +kernel]
      first | rfl | simp
    · show (fastBuiltinMro "int").map (·.contains (.ref C)) = some false
      rw [show fastBuiltinMro "int" = some [.type "int", .type "object"] by decide +kernel]
      first | rfl | simp
    · show (fastBuiltinMro "str").map (·.contains (.ref C)) = some false
      rw [show fastBuiltinMro "str" = some [.type "str", .type "object"] by decide +kernel]
      first | rfl | simp
    · show (fastBuiltinMro "list").map (·.contains (.ref C)) = some false
      rw [show fastBuiltinMro "list" = some [.type "list", .type "object"] by decide +kernel]
      first | rfl | simp
    · show (fastBuiltinMro "tuple").map (·.contains (.ref C)) = some false
      rw [show fastBuiltinMro "tuple" = some [.type "tuple", .type "object"] by decide +kernel]
      first | rfl | simp
    · show (fastBuiltinMro "dict").map (·.contains (.ref C)) = some false
      rw [show fastBuiltinMro "dict" = some [.type "dict", .type "object"] by decide +kernel]
      first | rfl | simp
  exact e _ (by cases d <;> simp [tyD])
end
end Kp


namespace Kp
open PySem PySem.Spec PyProof.Rows L2
/-! ### comprehensions of two clauses -/
theorem wipe_in {i : Nat} : ∀ (τ : L2.St) (us : List Nat), i ∈ us → (L2.wipe τ us)[i]? = if i < τ.length then some none else none := by
  intro τ us
  induction us with
  | nil => intro h; cases h
  | cons u us ih =>
    intro h
    show ((L2.wipe τ us).set u none)[i]? = _
    by_cases hu : u = i
    · subst hu
      by_cases hl : u < τ.length
      · rw [List.getElem?_set_self (by rw [wipe_length]; exact hl), if_pos hl]
      · rw [List.getElem?_eq_none (by rw [List.length_set, wipe_length]; omega), if_neg hl]
    · rw [List.getElem?_set_ne hu]
      exact ih ((List.mem_cons.mp h).resolve_left fun q => hu q.symm)
theorem wipe_set {j : Nat} {o : Option V} (σ : L2.St) {vs : List Nat} (h : j ∈ vs) : L2.wipe (σ.set j o) vs = L2.wipe σ vs := by
  apply List.ext_getElem?
  intro i
  by_cases hi : i ∈ vs
  · rw [wipe_in _ _ hi, wipe_in _ _ hi, List.length_set]
  · rw [wipe_out hi, wipe_out hi, List.getElem?_set_ne (fun e => hi (by rw [← e]; exact h))]
/-- a target among the names that are wiped -/
theorem tgok1in {K : PySem.W.Frag} {w0 : Wl} (j : Nat) {vs : List Nat} (h : j ∈ vs) : TgOk K w0 (gName j) (tg1 j) vs := ⟨fun v d w σ ss P Q hd hs hT q => q _ _ (hs.set (a := .dat d) j rfl hd) (wipe_set σ h) hT⟩
section
variable {X : Cx} {w0 : Wl} {ss : SS} {pos : Pos}
abbrev BI (X : Cx) (w0 : Wl) (scope : Scope) (tg e : Expr) (ss : SS) (R : List PyData → Prop) : Prop := ∀ (s : Shared) (H : Hp) (C : Addr) (cl : List (Str × Addr)) (fp : List Addr), KI (X.blk s H scope (compEnvC scope cl C X.env) fp) w0 tg e ss R
def anBI (X : Cx) (w0 : Wl) (scope : Scope) (tg e : Expr) : TI := fun σ H RR => ∃ ss R, BI X w0 scope tg e ss R ∧ iOf X.K w0 ss R σ H RR
theorem kn_lc2 {tg tg1 elt iter iter1 : Expr} {scope : Scope} {own : List (Str × Nat)} {vs1 : List Nat} {g g1 : TG} {T T1 : PyData → SS → (SS → Prop) → Prop} {R : List PyData → Prop} (hc : X.calm = true) (hN : X.N.Nodup) (ok : BlkOk X.N X.env.scope scope own) (hv : ∀ i ∈ vs1, i ∈ own.map (·.2))
    (hT : TgOk X.K w0 g T (own.map (·.2))) (hT1 : TgOk X.K w0 g1 T1 vs1)
    (hg : ∀ (s : Shared) (H : Hp) (C : Addr) (cl : List (Str × Addr)) (fp : List Addr), PG (X.blk s H scope (compEnvC scope cl C X.env) fp) tg g)
    (hg1 : ∀ (s : Shared) (H : Hp) (C : Addr) (cl : List (Str × Addr)) (fp : List Addr), PG (X.blk s H scope (compEnvC scope cl C X.env) fp) tg1 g1)
    (h : KI X w0 tg iter ss fun ds => ∃ P : Nat → List PyData → Prop, P 0 [] ∧
      (∀ i d acc, ds[i]? = some d → P i acc → T d (wipeS ss (own.map (·.2))) fun ss' => nbS ss' = true ∧ BI X w0 scope tg1 iter1 ss' fun ds1 => ∃ P1 : Nat → List PyData → Prop, P1 0 acc ∧ (∀ j e acc', ds1[j]? = some e → P1 j acc' → acc'.length ≤ 50000 ∧ T1 e (wipeS ss' vs1) fun ss2 => BE X w0 scope elt ss2 fun x => onDat x fun x => P1 (j + 1) (acc' ++ [x])) ∧ ∀ acc', P1 ds1.length acc' → P (i + 1) acc') ∧ ∀ es, P ds.length es → R es)
    (hs : ∀ x, foldedSetIterable iter X.env x = pure x := by intro _; rfl) (hs1 : ∀ env x, foldedSetIterable iter1 env x = pure x := by intro _ _; rfl) : KN X w0 (.ListComp elt [⟨tg, iter, [], 0⟩, ⟨tg1, iter1, [], 0⟩] scope pos) ss R := by
  refine PE.imp (pe_lc2 (wi1 := anBI X w0 scope tg1 iter1) (te := anBE X w0 scope elt) hc hN h ok hv hg (fun _ _ _ _ _ => pts_nil) (fun s H C cl fp => ⟨fun pins s' σ H' Q I ⟨_, _, hh, q⟩ => (hh s H C cl fp).run pins s' σ H' Q I q⟩) hg1 (fun _ _ _ _ _ => pts_nil) (fun s H C cl fp => ⟨fun pins s' σ H' Q I ⟨_, _, hh, q⟩ => (hh s H C cl fp).run pins s' σ H' Q I q⟩) hs hs1) fun σ H Q hq => ?_
  obtain ⟨w, ew, hsl, q⟩ := hq
  refine ⟨w, ew, hsl, fun J ds w1 l1 walk hk D hD => ?_⟩
  obtain ⟨P, p0, pt, pe⟩ := hk
  have hsl1 := hsl.mono l1
  have hgD : w1.g D = none := w1.gfree hD
  have hwD : w.h D = none := exFree l1.h hD
  let Ac := fun (w' : Wl) (es : List PyData) => ∃ vs : List V, Le w1 w' ∧ w'.h D = some (.lst vs) ∧ w'.g D = none ∧ DdA X.K w'.g vs es
  let Inv := fun (i : Nat) (H' : Hp) => ∃ (w' : Wl) (es : List PyData), w'.h = H' ∧ Ac w' es ∧ P i es
  have acMono : ∀ {w' w2 : Wl} {es : List PyData}, Le w' w2 → Ac w' es → Ac w2 es := fun {w' w2 es} l ⟨vs, a, b, c, d⟩ => ⟨vs, a.trans l, l.h _ _ b, l.hid D (by rw [b]; simp) c, d.mono l.g⟩
  refine ⟨fun i m H' => m = ds.length - i ∧ i ≤ ds.length ∧ Inv i H', ⟨ds.length, by simp, Nat.zero_le _, w1.own D (.lst []) hgD, [], rfl, ⟨[], Le.own hD, upd_same, hgD, .nil⟩, p0⟩, ?_⟩
  rintro i m H' ⟨rfl, hi, w', es, rfl, hac, hp⟩
  by_cases hlt : i < ds.length
  · refine .inr ?_
    have hget : ds[i]? = some ds[i] := by simp [hlt]
    obtain ⟨vs, le, h1, h2, hd⟩ := id hac
    obtain ⟨hgo, hy⟩ := (walk w' le.g i).1 _ hget
    refine ⟨hgo, Inv (i + 1), fun H2 iv => ⟨ds.length - (i + 1), by omega, rfl, hlt, iv⟩, fun x H2 y => ?_⟩
    obtain ⟨w2, rfl, l2, hx⟩ := hy x H2 y
    have le2 := le.trans l2
    refine hT.go x ds[i] w2 _ _ _ _ hx ((hsl1.mono le2).wipe _) (pt i _ es hget hp) fun σ2 ss2 hs2 hw2 k2 => ⟨by
      rw [hw2]
      exact lcK.wipe_idem _ _, ?_⟩
    obtain ⟨nb2, k2⟩ := k2
    refine iteT (B := Inv (i + 1) w2.h) ?_
    refine ⟨ss2, _, k2, w2, rfl, hs2, fun J1 ds1 w3 l3 walk1 hk1 => ?_⟩
    obtain ⟨P1, q0, qt, qe⟩ := hk1
    let Inv1 := fun (j : Nat) (H' : Hp) => ∃ (w' : Wl) (es : List PyData), w'.h = H' ∧ Ac w' es ∧ Ex w3.g w'.g ∧ P1 j es
    refine ⟨fun j m H' => m = ds1.length - j ∧ j ≤ ds1.length ∧ Inv1 j H', ⟨ds1.length, by simp, Nat.zero_le _, w3, es, rfl, acMono l3 (acMono l2 hac), Ex.refl _, q0⟩, ?_⟩
    rintro j m H' ⟨rfl, hj, w4, es4, rfl, hac4, e4, hp4⟩
    by_cases hlt1 : j < ds1.length
    · refine .inr ?_
      have hget1 : ds1[j]? = some ds1[j] := by simp [hlt1]
      obtain ⟨hgo1, hy1⟩ := (walk1 w4 e4 j).1 _ hget1
      refine ⟨hgo1, Inv1 (j + 1), fun H2 iv => ⟨ds1.length - (j + 1), by omega, rfl, hlt1, iv⟩, fun x1 H2 y1 => ?_⟩
      obtain ⟨w5, rfl, l5, hx1⟩ := hy1 x1 H2 y1
      have hac5 := acMono l5 hac4
      obtain ⟨vs5, le5, a1, a2, a3⟩ := id hac5
      have hs5 : Sl X.K w0 w5 σ2 ss2 := Sl.backM (st' := w0.st) (st2 := w0.st) nb2 hs2 (hsl1.mono le5) ((l3.g.trans e4).trans l5.g)
      obtain ⟨hz5, qt5⟩ := qt j _ es4 hget1 hp4
      refine hT1.go x1 ds1[j] w5 _ _ _ _ hx1 (hs5.wipe _) qt5 fun σ3 ss3 hs3 hw3 k3 => ⟨by
        rw [hw3]
        exact lcK.wipe_idem _ _, ?_⟩
      refine iteT (B := Inv1 (j + 1) w5.h) ?_
      refine ⟨ss3, _, k3, w5, rfl, hs3, fun v a w6 l6 hv6 ha => ?_⟩
      obtain ⟨e, rfl, hP⟩ := ha.of
      obtain ⟨vs6, le6, b1, b2, b3⟩ := acMono l6 hac5
      refine ⟨vs6, b1, Nat.lt_of_le_of_lt (by rw [b3.length]; exact hz5) (by decide), w6.own D (.lst (vs6 ++ [v])) b2, es4 ++ [e], rfl, ⟨vs6 ++ [v], ⟨le6.g, fun b o eo => ?_, fun b c1 c2 => le6.hid b c1 c2⟩, upd_same, b2, b3.append (.cons hv6 .nil)⟩, (e4.trans l5.g).trans l6.g, hP⟩
      show upd w6.h D _ b = some o
      rw [upd_ne (ne_of_none eo hD)]
      exact le6.h b o eo
    · have e : j = ds1.length := by omega
      subst e
      refine .inl ⟨(walk1 w4 e4 ds1.length).2 (Nat.le_refl _), w4, es4, rfl, hac4, qe es4 hp4⟩
  · have e : i = ds.length := by omega
    subst e
    obtain ⟨vs, le, h1, h2, hd⟩ := hac
    refine .inl ⟨(walk w' le.g ds.length).2 (Nat.le_refl _), ?_⟩
    exact q D vs es w' (l1.trans le) hwD h1 h2 hd (pe es hp)
end
end Kp


namespace Kp
open PySem PySem.Spec PyProof.Rows L2
section
variable {base : Heap} {K : PySem.W.Frag} {w : World} {P : Program} {mg : Str → Option Value}
/-- a method over the store, as one over data -/
theorem MtM.data {C0 : Addr} {m : Str} {k : Nat} {C : Store → List AV → (Store → AV → Prop) → Prop} {C' : List AV → (AV → Prop) → Prop} (D : MtM P w K mg base C0 m k C) (h : ∀ as R, C' as R → C [] as fun st' a => (∃ d, Spl st' a d ∧ R (.dat d)) ∨ ∃ p C fs, a = .at_ p ∧ SplI st' p C fs ∧ R (.ins C fs)) : MtA P w K mg base C0 m k C' := by
  obtain ⟨f, fd, ps, M, F, b⟩ := D
  exact ⟨f, fd, ps, M, F.imp fun vs H Q E q => spM_data h q, b⟩
end
section
variable {X : Cx} {w0 : Wl} {ss : SS} {st : Store} {o : Expr} {pos : Pos}
/-- o.m() of an instance, over data -/
theorem k_meth0 {Ct : List AV → (AV → Prop) → Prop} {j k : Nat} {m : Str} {C : Addr} {apos : Pos} {R : AV → Prop} {pl : Sem Bool} (c : Cls X.K C) (D : MtA X.prog X.w X.K X.mg X.base C m k Ct) (hr : Room j X.A) (hk : k ≤ j)
    (h : KE X w0 o ss fun x => ∃ ds, x = .ins C ds ∧ ds.lookup m = none ∧ Ct [x] R)
    (ht : eval (.Call (.Attribute o m apos) [] [] pos) X.env = (do
      let ov ← eval o X.env
      standAt apos.atName
      let (f, first) ← holding [ov] (getMethod ov m pl)
      callWith pos f first (backTo pos (starEach [] X.env)) (backToKw pos (keywordEach [] X.env))) := by rfl) :
    KE X w0 (.Call (.Attribute o m apos) [] [] pos) ss R := by
  obtain ⟨f, fd, ps, M, F, hb⟩ := D
  refine PE.imp (pe_meth0 (pl := pl) (E := (fun _ _ _ => False : XK)) h c M F (hr.mono hk) hb .nil pass0 ht) fun σ H Q ⟨w, ew, hs, q⟩ => ⟨w, ew, hs, fun v x w1 l1 hv ⟨ds, ex, hl, hC⟩ => ?_⟩
  subst ex
  have hv0 := hv
  obtain ⟨a, dx, fs, rfl, h1, h2⟩ := hv
  refine ⟨a, dx, fs, rfl, w1.sub _ _ h1, lookup_none h2 hl, ?_⟩
  exact ⟨w1, _, R, rfl, .cons hv0 .nil, ⟨rfl, hC⟩, fun v a w' l hv hr => q v a w' (l1.trans l) hv hr⟩
/-- o.clear() of a list of the store -/
theorem m_clearL {apos cpos : Pos} {N : MN} (h : KE X (w0.at st) o ss fun a => ∃ p as, a = .at_ p ∧ (p, Ck.lst, as) ∈ st ∧ N.nx (stSet st p []) ss)
    (hbase : attributeBase o "clear" X.env (eval o X.env) = eval o X.env := by rfl) (hline : (apos.endLine == cpos.line) = true := by rfl)
    (hsw : swapsWith (.Call (.Attribute o "clear" apos) [] [] cpos) none pos.line X.env = pure false := by rfl) : MS X w0 (.Expr (.Call (.Attribute o "clear" apos) [] [] cpos) pos) st ss N := by
  refine PS.imp (ps_expr (pe_bm0 PySem.F.plainAttrs_list PySem.F.slot_list_clear PySem.F.type_list_clear mt_clear h hbase hline) hsw) fun D σ H ⟨w, ew, hsl, d⟩ => ⟨w, ew, hsl, fun v a w1 l1 hv ⟨p, as, ea, m, hk⟩ => ?_⟩
  subst ea
  cases hv
  have hs1 := hsl.mono l1
  obtain ⟨_, _, vs, g1, g2, _⟩ := hs1.so.key m
  have g1 : w1.h p = some (.lst vs) := g1
  refine ⟨.inl ⟨rfl, _, .inl (.inl g1)⟩, p, vs, rfl, rfl, g1, ?_⟩
  exact d.nx σ ss _ (w1.own p (.lst []) g2) l1.g (hs1.setC m g2 .nil rfl) hk
/-- for x in e, e a list that is made for it in the store -/
theorem m_forOM {x : Str} {p1 : Pos} {iter : Expr} {body : List Stmt} {j : Nat} {N : MN} (hp : PassesOwn (model X.prog X.w) X.A X.env X.xe) (hc : X.calm = true) (hg : PG X (.Name x p1) (gName j))
    (h : ME X w0 iter st ss fun st1 a => ∃ (L : Addr) (as : List AV) (I : Nat → Store → SS → Prop), a = .at_ L ∧ (L, Ck.lst, as) ∈ st1 ∧ I 0 st1 ss ∧ (∀ i st' ss', I i st' ss' → (L, Ck.lst, as) ∈ st') ∧
      (∀ i a st' ss', as[i]? = some a → I i st' ss' → MSs X w0 body st' (ss'.set j (some a)) { nx := I (i + 1), rt := N.rt, bk := N.nx, ct := I (i + 1) }) ∧ ∀ st' ss', I as.length st' ss' → N.nx st' ss')
    (hs : ∀ x, foldedSetIterable iter X.env x = pure x := by intro _; rfl) : MS X w0 (.For (.Name x p1) iter body [] pos) st ss N := by
  refine PS.imp (ps_for hp hc (pi_list h) hg (pss_anM (w0 := w0)) hs) fun D σ H ⟨w, ew, hsl, d⟩ => ⟨w, ew, hsl, fun v a st1 w1 e1 hs1 hv hk => ?_⟩
  obtain ⟨L, as, I, rfl, mL, i0, im, it, ie⟩ := hk
  cases hv
  obtain ⟨_, _, vs1, g1, _, _⟩ := hs1.so.key mL
  have g1 : w1.h L = some (.lst vs1) := g1
  refine ⟨L, rfl, ⟨_, .inl (.inl g1)⟩, ?_⟩
  refine ⟨fun i m σ' H' => m = as.length - i ∧ i ≤ as.length ∧ ∃ (st' : Store) (ss' : SS) (w' : Wl), w'.h = H' ∧ Sl X.K (w0.at st') w' σ' ss' ∧ Ex w1.g w'.g ∧ I i st' ss', ⟨as.length, by simp, Nat.zero_le _, st1, ss, w1, rfl, hs1, Ex.refl _, i0⟩, ?_⟩
  rintro i m σ' H' ⟨rfl, hi, st', ss', w', rfl, hs', eg, hI⟩
  obtain ⟨_, hpl, us, k1, _, k3⟩ := hs'.so.key (im i st' ss' hI)
  have k1 : SqL X.K w'.h L us := .inl (.inl k1)
  by_cases hlt : i < as.length
  · refine .inr ?_
    have hget : as[i]? = some as[i] := by simp [hlt]
    obtain ⟨u, hu, au⟩ := k3.get hget
    refine ⟨⟨us, u, k1, hu⟩, fun σ2 H2 => ∃ (st' : Store) (ss' : SS) (w' : Wl), w'.h = H2 ∧ Sl X.K (w0.at st') w' σ2 ss' ∧ Ex w1.g w'.g ∧ I (i + 1) st' ss', fun σ2 H2 iv => ⟨as.length - (i + 1), by omega, rfl, hlt, iv⟩, fun y H2 yy => ?_⟩
    obtain ⟨rfl, yy⟩ := yy
    have e3 := yy us k1
    rw [hu] at e3
    cases e3
    have hpa : (as[i]).plain = true := List.all_eq_true.mp hpl _ (List.getElem_mem hlt)
    refine ⟨st', _, _, it i _ st' ss' hget hI, w', rfl, hs'.set (a := as[i]) j hpa au, ⟨fun σ3 ss3 st3 w3 x3 s3 n3 => ⟨st3, ss3, w3, rfl, s3, eg.trans x3, n3⟩, fun v a st3 w3 x3 l3 o3 a3 r3 => d.rt v a st3 w3 (e1.trans (eg.trans x3)) l3 o3 a3 r3, fun σ3 ss3 st3 w3 x3 s3 n3 => d.nx σ3 ss3 st3 w3 (e1.trans (eg.trans x3)) s3 n3, fun σ3 ss3 st3 w3 x3 s3 n3 => ⟨st3, ss3, w3, rfl, s3, eg.trans x3, n3⟩⟩⟩
  · have e : i = as.length := by omega
    subst e
    exact .inl ⟨⟨us, k1, by rw [k3.length]; exact Nat.le_refl _⟩, d.nx σ' ss' st' w' (e1.trans eg) hs' (ie st' ss' hI)⟩
end
end Kp


namespace Kp
open PySem PySem.Spec PyProof.Rows L2
section
variable {X : Cx} {w0 : Wl} {ss : SS} {st : Store} {pos : Pos}
/-- [e1, e2], a new list of the store, its parts made for it -/
theorem me_lst2 {e1 e2 : Expr} {R : Store → AV → Prop} (h : ME X w0 e1 st ss fun st1 a => ME X w0 e2 st1 ss fun st2 b => a.plain = true ∧ b.plain = true ∧ ∀ p, Fresh st2 p → R ((p, Ck.lst, [a, b]) :: st2) (.at_ p))
    (h1 : starEach [e1, e2] X.env = (false, eval e1 X.env) :: starEach [e2] X.env := by rfl) (h2 : starEach [e2] X.env = (false, eval e2 X.env) :: starEach [] X.env := by rfl) : ME X w0 (.List [e1, e2] pos) st ss R :=
  PE.imp (pe_lst (pa_cons h (pa_cons (pe_anM (w0 := w0)) pa_nil h2) h1)) fun σ H Q ⟨w, ew, hs, q⟩ => ⟨w, ew, hs, fun v a st1 w1 g1 hs1 hv hk => by
    refine ⟨st1, ss, _, hk, w1, rfl, hs1, fun u b st2 w2 g2 hs2 hu ⟨pa, pb, hr⟩ => ?_⟩
    have hvs : AvA X.K w2 [v, u] [a, b] := .cons (Av.monoG g2 pa hv) (.cons hu .nil)
    refine ⟨by show 2 ≤ sizeLine; decide, fun p hp => ?_⟩
    obtain ⟨fr, hs3⟩ := Sl.new (b := .lst) (vs := [v, u]) (as := [a, b]) hs2 (Le.own (o := .lst [v, u]) hp) hp upd_same (w2.gfree hp) (hvs.mono (Le.own (o := .lst [v, u]) hp)) (by rw [List.all_cons, List.all_cons, pa, pb]; rfl)
    exact q (.ref p) (.at_ p) _ (w2.own p (.lst [v, u]) (w2.gfree hp)) (g1.trans g2) hs3 rfl (hr p fr)⟩
/-- C(e, ..) as a value -/
theorem k_make {Ct : Store → List AV → (Store → AV → Prop) → Prop} {j k : Nat} {x : Str} {C : Addr} {p : Pos} {e : Expr} {es : List Expr} {R : AV → Prop} (D : MkM X.prog X.w X.K X.mg X.base x C k Ct) (hr : Room j X.A) (hk : k + 1 ≤ j) (hg : Gl X x)
    (h : KA X w0 (e :: es) ss fun as => as.all AV.plain = true ∧ ∀ p dx, Ct [(p, Ck.ins C dx [], [])] (.at_ p :: as) fun st' a => a = .dat .none ∧ ∃ fs, SplI st' p C fs ∧ R (.ins C fs)) (hdb : (x == ("__debug__" : Str)) = false := by decide) (he : starEach (e :: es) X.env = (false, eval e X.env) :: starEach es X.env := by rfl) (hpl : (backTo pos (starEach es X.env)).any (·.1) = false := by rfl) :
    KE X w0 (.Call (.Name x p) (e :: es) [] pos) ss R := by
  obtain ⟨f, fd, ps, M, F, hm, hb⟩ := D
  refine PE.imp (pe_make (E := (fun _ _ _ => False : XK)) M F (hr.mono hk) hg hm hb .nil pass0 h hdb he hpl) fun σ H Q ⟨w, ew, hs, q⟩ => ⟨w, ew, hs, fun vs as w1 l1 hvs ⟨hp, hk⟩ => ?_⟩
  intro x dx hx hdx ne
  rw [List.append_nil]
  have l2 : Le w1 (w1.put dx (.own x)) := Le.put hdx
  have hx2 : (w1.put dx (.own x)).h x = none := (upd_ne (Ne.symm ne)).trans hx
  have l3 : Le (w1.put dx (.own x)) ((w1.put dx (.own x)).own x (.ins C dx []) ((w1.put dx (.own x)).gfree hx2)) := Le.own hx2
  obtain ⟨fr, so⟩ := SOk.new (w0 := w1.put dx (.own x)) (w := w1.put dx (.own x)) (st := []) (b := .ins C dx []) (vs := []) (as := []) ⟨fun p b as m => absurd m List.not_mem_nil, List.nodup_nil⟩ (Le.refl _) l3 hx2 upd_same ((w1.put dx (.own x)).gfree hx2) .nil rfl
  refine ⟨w1.put dx (.own x), (w1.put dx (.own x)).own x (.ins C dx []) ((w1.put dx (.own x)).gfree hx2), _, _, _, rfl, l3, so, .cons (a := .at_ x) (show V.ref x = V.ref x from rfl) ((hvs.mono l2).mono l3), ⟨by rw [List.all_cons, hp]; rfl, hk x dx⟩, fun v a st' w' l' eg o' ha ⟨ea, fs, sp, hR⟩ => ?_⟩
  subst ea
  cases ha
  have le : Le (w1.put dx (.own x)) (w'.frz st') := ⟨l'.g.trans o'.frz_g, l'.h, fun b h1 h2 => by
    have z : b ∉ st'.map (·.1) := fun z => by
      obtain ⟨t, bs, m⟩ := mem_key z
      exact h1 (o'.key m).1
    exact (frzG_out z).trans (l'.hid b h1 h2)⟩
  exact ⟨rfl, q (.ref x) (.ins C fs) (w'.frz st') (l1.trans (l2.trans le)) (sp.av o') hR⟩
/-- == and != of truths -/
abbrev beqS (x y : AV) (R : Bool → Prop) : Prop := match x, y with
  | .dat (.bool i), .dat (.bool j) => R (decide (i = j))
  | _, _ => False
abbrev bneS (x y : AV) (R : Bool → Prop) : Prop := match x, y with
  | .dat (.bool i), .dat (.bool j) => R (!decide (i = j))
  | _, _ => False
theorem dV_bl (i j : Bool) : decide (V.bl i = V.bl j) = decide (i = j) := by by_cases h : i = j <;> simp [h]
theorem dc_beq : DCmp X .Eq beqS := ⟨_, op_eq, fun x y R hy vx vy w Q ax ay q => by
  unfold beqS at hy
  split at hy
  · cases ax
    cases ay
    exact ⟨rfl, by rw [dV_bl]; exact go q (.bl _) hy⟩
  · exact hy.elim⟩
theorem dc_bne : DCmp X .NotEq bneS := ⟨_, op_ne, fun x y R hy vx vy w Q ax ay q => by
  unfold bneS at hy
  split at hy
  · cases ax
    cases ay
    exact ⟨rfl, by rw [dV_bl]; exact go q (.bl _) hy⟩
  · exact hy.elim⟩
end
end Kp


namespace Kp
open PySem PySem.Spec PyProof.Rows L2
/-! ### more of dicts of numbers by texts -/
section
variable {X : Cx} {w0 : Wl} {ss : SS} {pos : Pos}
/-- d[k] -/
theorem k_rsub {o e : Expr} {R : AV → Prop} (hu : X.A.units + 1 < cLine) (hp : NoSl e) (h : KE X w0 o ss fun x => ∃ m, x = .reg m ∧ KE X w0 e ss fun y => ∃ (k : Str) (n : Int), y = .dat (.str k) ∧ regGet m k = some n ∧ R (.dat (.int n))) : KE X w0 (.Subscript o e pos) ss R :=
  PE.imp (pe_dget hu h (pe_an (w0 := w0) (ss := ss)) hp) fun σ H Q ⟨w, ew, hs, q⟩ => ⟨w, ew, hs, fun v x w1 l1 hv ⟨m, ex, he⟩ => by
    subst ex
    obtain ⟨a, rfl, ha⟩ := hv
    refine ⟨_, he, w1, rfl, hs.mono l1, fun v2 y w2 l2 hv2 ⟨k, n, ey, eg, hr⟩ => ?_⟩
    subst ey
    cases hv2
    have h2 := w2.sub _ _ (l2.g _ _ ha)
    have e2 : valV (regK m) (.inr k) = some (.int n) := by rw [valV_reg, eg]; rfl
    exact ⟨a, .int n, rfl, by rw [← e2]; exact DGet.k (k := .inr k) h2, q _ (.dat (.int n)) w2 (l1.trans l2) (.int n) hr⟩⟩
/-- sorted(d): its keys in order -/
abbrev sortRS : List AV → (AV → Prop) → Prop
  | [.reg m], R => m.length < 64 ∧ ∀ ys : List Str, ys.Perm (m.map (·.1)) → sortedS ys = true → R (.dat (.list (ys.map .str)))
  | _, _ => False
theorem dl_sortR (hc : X.calm = true) : DCl X (.builtin "sorted") sortRS := ⟨_, call_sortedD hc, fun xs R hy vs w Q av q => by
  unfold sortRS at hy
  split at hy
  · obtain ⟨v, rfl, hv⟩ := av.one
    obtain ⟨hz, hr⟩ := hy
    obtain ⟨a, rfl, ha⟩ := hv
    rename_i m
    refine ⟨a, regK m, m.map (·.1), rfl, .inl (w.sub _ _ ha), ?_, by rw [List.length_map]; exact hz, fun ys p hp hs hf => Le.lst (DdA.ofStrs ys) (hr ys hp hs) q p hf⟩
    unfold regK
    rw [List.map_map, List.map_map]
    rfl
  · exact hy.elim⟩
end
end Kp


namespace Kp
open PySem PySem.Spec PyProof.Rows L2
/-! ### defs with keyword-only parameters, called by keywords -/
section
variable {X : Cx} {w0 : Wl} {ss : SS}
abbrev KK (X : Cx) (w0 : Wl) (kws : List Keyword) (ss : SS) (R : List AV → Prop) : Prop := PK X kws (taOf X.K w0 ss R)
def anKw (X : Cx) (w0 : Wl) (kws : List Keyword) (ss : SS) : TA := fun σ H Q => ∃ R, KK X w0 kws ss R ∧ taOf X.K w0 ss R σ H Q
theorem pk_an {kws : List Keyword} : PK X kws (anKw X w0 kws ss) := ⟨fun pos pins s σ H Q I ⟨R, h, q⟩ => h.run pos pins s σ H Q I q⟩
theorem pk_imp {kws : List Keyword} {t t' : TA} (h : PK X kws t) (k : ∀ σ H Q, t' σ H Q → t σ H Q) : PK X kws t' := ⟨fun pos pins s σ H Q I q => h.run pos pins s σ H Q I (k σ H Q q)⟩
theorem kk_nil {R : List AV → Prop} (hR : R []) : KK X w0 [] ss R :=
  pk_imp pk_nil fun σ H Q ⟨w, e, hs, q⟩ => by
    subst e
    exact q [] [] w (Le.refl w) .nil hR
theorem kk_cons {nm : Option Str} {e : Expr} {kpos : Pos} {kws : List Keyword} {R : List AV → Prop} (h : KE X w0 e ss fun a => KK X w0 kws ss fun as => R (a :: as)) : KK X w0 (⟨nm, e, kpos⟩ :: kws) ss R :=
  pk_imp (pk_cons h (pk_an (w0 := w0) (ss := ss))) fun σ H Q ⟨w, ew, hsl, q⟩ => by
    refine ⟨w, ew, hsl, fun v a w1 l1 hv hk => ⟨_, hk, w1, rfl, hsl.mono l1, fun vs as w2 l2 hvs hr => ?_⟩⟩
    exact q (v :: vs) (a :: as) w2 (l1.trans l2) (.cons (hv.mono l2) hvs) hr
end
/-- by the name x a def is called with n values in a row and keywords ks; gA puts the values in the parameters' order -/
def DnK (P : Program) (w : World) (K : PySem.W.Frag) (mg : Str → Option Value) (base : Heap) (x : Str) (k n : Nat) (ks : List Str) (gA : List AV → List AV → List AV) (C : List AV → (AV → Prop) → Prop) : Prop := ∃ (f : Addr) (fd : FuncData) (ps : List Str) (g : List Value → List Value → List Value) (gV : List V → List V → List V),
  FnOk P w K mg base CX0 k f fd ps (spA K C) ∧ mg x = some (.ref f) ∧ PySem.W.keepIn K (.ref f) = true ∧ KBn K fd ps n ks g gV ∧ ∀ (w' : Wl) (vs zs : List V) (as bs : List AV), AvA K w' vs as → AvA K w' zs bs → AvA K w' (gV vs zs) (gA as bs)
section
variable {X : Cx} {w0 : Wl} {ss : SS} {R : AV → Prop}
theorem k_cdK {C : List AV → (AV → Prop) → Prop} {j k n : Nat} {ks : List Str} {gA : List AV → List AV → List AV} {x : Str} {p pos : Pos} {e : Expr} {es : List Expr} {kws : List Keyword} (D : DnK X.prog X.w X.K X.mg X.base x k n ks gA C) (hr : Room j X.A) (hk : k ≤ j) (hg : Gl X x)
    (h : KA X w0 (e :: es) ss fun as => KK X w0 kws ss fun bs => as.length = n ∧ bs.length = ks.length ∧ (gA as bs).all AV.plain = true ∧ C (gA as bs) R)
    (hall : (backToKw pos (keywordEach kws X.env)).all (·.1.isSome) = true := by rfl) (hks : (backToKw pos (keywordEach kws X.env)).filterMap (·.1) = ks := by rfl)
    (hdb : (x == ("__debug__" : Str)) = false := by decide) (he : starEach (e :: es) X.env = (false, eval e X.env) :: starEach es X.env := by rfl)
    (hpl : ((backTo pos (starEach (e :: es) X.env)).any (·.1) || (backToKw pos (keywordEach kws X.env)).any (·.1.isNone)) = false := by rfl) : KE X w0 (.Call (.Name x p) (e :: es) kws pos) ss R := by
  obtain ⟨f, fd, ps, g, gV, F, hm, hkp, hb, hA⟩ := D
  exact PE.imp (pe_callN F (hr.mono hk) hg hm hkp hb pass0 h (pk_an (w0 := w0) (ss := ss)) hall hks hdb he hpl) fun σ H Q ⟨w, ew, hs, q⟩ => ⟨w, ew, hs, fun vs as w1 l1 hvs hk => ⟨_, hk, w1, rfl, hs.mono l1, fun zs bs w2 l2 hzs ⟨n1, n2, n3, n4⟩ => ⟨by rw [hvs.length]; exact n1, by rw [hzs.length]; exact n2, w2, gA as bs, R, rfl, hA w2 vs zs as bs (hvs.mono l2) hzs, ⟨n3, n4⟩, fun v2 a2 w3 l3 h3 r3 => q v2 a2 w3 ((l1.trans l2).trans l3) h3 r3⟩⟩⟩
end
/-- how a def with keyword-only parameters stands -/
def FnD0 (K : PySem.W.Frag) (mg : Str → Option Value) (x : Str) (st : Stmt) (kws : List (Str × V)) : Prop := ∃ (f : Addr) (fd : FuncData), FunD K x x (defArgs st) (defBody st) (defScope st) [] kws f fd ∧ mg x = some (.ref f)
section
variable {base : Heap} {K : PySem.W.Frag} {w : World} {P : Program} {mg : Str → Option Value}
theorem okAD {x qual : Str} {st : Stmt} {kws : List (Str × V)} {f : Addr} {fd : FuncData} {N ps : List Str} {k : Nat} {C : List AV → (AV → Prop) → Prop} (F : FunD K x qual (defArgs st) (defBody st) (defScope st) [] kws f fd) (S : FnScope N ps (defScope st)) (len : ∀ as R, C as R → as.length = ps.length)
    (hbody : ∀ (cdv : Value) (A : Around) (outer : List Env) (s : Shared) (H : Hp) (E : XK) (w0 : Wl) (as : List AV) (R : AV → Prop), Room k (A.deeper (envOfC qual (defScope st) s.heap.objs.size f cdv)) → C as R →
      KSs (cxB P w K mg base N qual (defScope st) f cdv A outer s H E) w0 (defBody st) (ss0 N.length as) { nx := fun _ => R (.dat .none), rt := R }) : FnOk P w K mg base CX0 (k + 1) f fd ps (spA K C) := by
  refine F.ok S (fun vs H Q E ⟨w0, as, R, e, hv, hc, q⟩ => by rw [hv.length]; exact len as R hc.2) fun cdv A outer s H vs Q E hr ⟨w0, as, R, e, hv, hc, q⟩ => ?_
  refine ⟨_, (hbody cdv A outer s H E w0.bare as R hr hc.2).nox, w0, e, Sl.start hv hc.1, ⟨fun σ' ss' w' _ hs hk => q .non (.dat .none) w' hs.le.unbare .non hk, fun v a w' _ hl ha hr => q v a w' hl.unbare ha hr, fun _ _ _ _ _ h => h.elim, fun _ _ _ _ _ h => h.elim⟩⟩
/-- by the name x a def is called whose last parameters, all None, aren't written -/
def DnD (P : Program) (w : World) (K : PySem.W.Frag) (mg : Str → Option Value) (base : Heap) (x : Str) (k m : Nat) (C : List AV → (AV → Prop) → Prop) : Prop := ∃ (f : Addr) (fd : FuncData) (ps : List Str) (ds : List Value),
  FnOk P w K mg base CX0 k f fd ps (spA K C) ∧ mg x = some (.ref f) ∧ PySem.W.keepIn K (.ref f) = true ∧ Binds K fd ps ds ∧ Vals (List.replicate m V.non) ds
theorem none_all {K : PySem.W.Frag} {w' : Wl} : ∀ m : Nat, AvA K w' (List.replicate m V.non) (List.replicate m (AV.dat .none))
  | 0 => .nil
  | m + 1 => .cons (.non : Dd _ _ _ _) (none_all m)
end
section
variable {X : Cx} {w0 : Wl} {ss : SS} {R : AV → Prop}
theorem k_cdD {C : List AV → (AV → Prop) → Prop} {j k m : Nat} {x : Str} {p pos : Pos} {e : Expr} {es : List Expr} (D : DnD X.prog X.w X.K X.mg X.base x k m C) (hr : Room j X.A) (hk : k ≤ j) (hg : Gl X x)
    (h : KA X w0 (e :: es) ss fun as => (as ++ List.replicate m (AV.dat .none)).all AV.plain = true ∧ C (as ++ List.replicate m (AV.dat .none)) R) (hdb : (x == ("__debug__" : Str)) = false := by decide) (he : starEach (e :: es) X.env = (false, eval e X.env) :: starEach es X.env := by rfl) (hpl : (backTo pos (starEach es X.env)).any (·.1) = false := by rfl) :
    KE X w0 (.Call (.Name x p) (e :: es) [] pos) ss R := by
  obtain ⟨f, fd, ps, ds, F, hm, hkp, hb, rv⟩ := D
  exact PE.imp (pe_call F (hr.mono hk) hg hm hkp hb rv pass0 h hdb he hpl) fun σ H Q ⟨w, ew, hs, q⟩ => ⟨w, ew, hs, fun vs as w1 l1 hvs hk => ⟨w1, as ++ List.replicate m (AV.dat .none), R, rfl, AvA.appA hvs (none_all m), hk, fun v2 a2 w2 l2 h2 r2 => q v2 a2 w2 (l1.trans l2) h2 r2⟩⟩
end
section
variable {base : Heap} {K : PySem.W.Frag} {w : World} {P : Program} {mg : Str → Option Value}
theorem dnK {x : Str} {st : Stmt} {kws : List (Str × V)} {N ps ks : List Str} {k n : Nat} {gA : List AV → List AV → List AV} {C : List AV → (AV → Prop) → Prop} (F : FnD0 K mg x st kws) (S : FnScope N ps (defScope st))
    (kb : ∀ (f : Addr) (fd : FuncData), FunD K x x (defArgs st) (defBody st) (defScope st) [] kws f fd → ∃ g gV, KBn K fd ps n ks g gV ∧ ∀ (w' : Wl) (vs zs : List V) (as bs : List AV), AvA K w' vs as → AvA K w' zs bs → AvA K w' (gV vs zs) (gA as bs)) (len : ∀ as R, C as R → as.length = ps.length)
    (hbody : ∀ (f : Addr) (cdv : Value) (A : Around) (outer : List Env) (s : Shared) (H : Hp) (E : XK) (w0 : Wl) (as : List AV) (R : AV → Prop), Room k (A.deeper (envOfC x (defScope st) s.heap.objs.size f cdv)) → C as R →
      KSs (cxB P w K mg base N x (defScope st) f cdv A outer s H E) w0 (defBody st) (ss0 N.length as) { nx := fun _ => R (.dat .none), rt := R }) : DnK P w K mg base x (k + 1) n ks gA C := by
  obtain ⟨f, fd, F, hm⟩ := F
  obtain ⟨g, gV, hb, hA⟩ := kb f fd F
  exact ⟨f, fd, ps, g, gV, okAD F S len (hbody f), hm, F.kp, hb, hA⟩
end
theorem AvA.rev {K : PySem.W.Frag} {w : Wl} : ∀ {vs : List V} {as : List AV}, AvA K w vs as → AvA K w vs.reverse as.reverse
  | _, _, .nil => .nil
  | _, _, .cons a t => by
    rw [List.reverse_cons, List.reverse_cons]
    exact AvA.appA (AvA.rev t) (.cons a .nil)
end Kp


namespace Kp
open PySem PySem.Spec PyProof.Rows L2
/-! ### a dict's entries put into another one -/
section
variable {prog : Program} {w : World} {K : Type} [DecidableEq K] {knd : KeyKind prog w K} {A : Around} {E : Value → Shared → Prop} {s : Shared}
theorem idx_pairs {es : Array DictEntry} {kvs : List (K × Value)} (hp : Pairs knd es.toList kvs) (k : K) : (es.findIdx? fun e => knd.is k e.key) = kvs.findIdx? fun p => decide (p.1 = k) :=
  Eq.trans (by cases es; rw [List.findIdx?_toArray]) (hp.findIdx k)
/-- one entry is put -/
theorem put_kv {d : Addr} {kvs : List (K × Value)} {k : K} {key v : Value} {Q : Unit → Shared → Prop} (hkey : knd.is k key = true) (hm : s.heap.DictOf knd d kvs) (hz : kvs.length ≤ sizeLine)
    (q : ∀ h', h'.DictOf knd d (stored kvs k v) → Heap.SameBut d s.heap h' → Q () { s with heap := h' }) : wpAny (model prog w) A (dictPut d (knd.hash k) key v) Q E s := by
  obtain ⟨ob, es, ep, get, ex, dat, keys, prs, nd⟩ := hm
  have zs : es.size ≤ sizeLine := by rw [← Array.length_toList, prs.length]; exact hz
  refine wpAny_bind (wpAny_dictFind_of hkey get dat keys ?_)
  have ix := idx_pairs prs k
  generalize (es.findIdx? fun e => knd.is k e.key) = r at ix
  subst ix
  rcases fd : kvs.findIdx? fun p => decide (p.1 = k) with _ | i
  · rw [fd]
    have out : k ∉ kvs.map (·.1) := not_mem_of_findIdx_none fd
    have no : ¬ (kvs.any fun p => decide (p.1 = k)) = true := fun a => by
      obtain ⟨p, hp, e⟩ := List.any_eq_true.mp a
      exact out (of_decide_eq_true e ▸ List.mem_map_of_mem hp)
    have st : stored kvs k v = kvs ++ [(k, v)] := if_neg no
    refine wpAny_updateDictKeys (f := fun es => es.push ⟨knd.hash k, key, v⟩) (hz := zs) get dat (q _ ?_ (Heap.SameBut.update ..))
    rw [st]
    refine ⟨_, _, ep + 1, Heap.get?_update_self _ get (Obj.isFreed_of_dict (Obj.data_mapDictKeys dat _)), ex.mapDictKeys _, Obj.data_mapDictKeys dat _, keys.push hkey v, ?_, ?_⟩
    · rw [Array.toList_push]; exact prs.append hkey _ v
    · rw [List.map_append]
      exact List.nodup_append.mpr ⟨nd, List.nodup_cons.mpr ⟨List.not_mem_nil, List.nodup_nil⟩, fun x hx y hy e => out (by
        have hy : y = k := List.mem_singleton.mp hy
        rw [← hy, ← e]
        exact hx)⟩
  · rw [fd]
    have st : stored kvs k v = kvs.map fun p => if p.1 = k then (p.1, v) else p := if_pos (any_of_findIdx_some fd)
    refine wpAny_updateDict (f := fun es => es.modify i fun e => { e with val := v }) get dat (q _ ?_ (Heap.SameBut.update ..))
    rw [st]
    refine ⟨_, _, ep, Heap.get?_update_self _ get (Obj.isFreed_of_dict (Obj.data_mapDict dat _)), ex.mapDict _, Obj.data_mapDict dat _, keys.modify _ _, ?_, by rw [keys_map_store]; exact nd⟩
    rw [Array.toList_modify]
    exact prs.modify nd ((prs.findIdx k).trans fd) v

theorem iter_slot_dict : typeLookup (.type "dict") "__iter__" = pure (some (.builtin "dict.__iter__")) := by rw [typeLookup_type, builtinLookup_eq_fast]; kernel_rfl
/-- all entries of one dict put into another -/
theorem merge_kv {d o : Addr} {kvs more : List (K × Value)} {Q : Unit → Shared → Prop} (ne : d ≠ o) (sys : (o == sysModules) = false) (hd : s.heap.DictOf knd d kvs) (ho : s.heap.DictOf knd o more) (hz : kvs.length + more.length ≤ sizeLine)
    (q : ∀ h', h'.DictOf knd d (merged kvs more) → Heap.SameBut d s.heap h' → Q () { s with heap := h' }) : wpAny (model prog w) A (mergeMapping d (.ref o) false) Q E s := by
  obtain ⟨ob, es, ep, get, ex, dat, keys, prs, nd⟩ := ho
  have hd0 := hd
  obtain ⟨ob0, es0, ep0, get0, _, dat0, _⟩ := hd0
  have ln : es.size = more.length := by rw [← Array.length_toList, prs.length]
  have ty : s.TypeIs (.ref o) "dict" := ⟨ob, get, ex.1⟩
  unfold mergeMapping
  refine wpAny_bind (wpAny_isInstance ty isSubtype_dict_dict ?_)
  rw [if_pos rfl]
  refine wpAny_bind (wpAny_specialOf ty iter_slot_dict (wpAny_bind (wpAny_pure ?_)))
  show wpAny _ _ (if (o == sysModules) = true then _ else _) _ _ _
  rw [if_neg (by rw [sys]; exact Bool.false_ne_true)]
  refine wpAny_bind (wpAny_dictEntries get0 dat0 ?_)
  have go : ∀ (m i : Nat) (h : Heap), i + m = es.size → h.DictOf knd d (merged kvs (more.take i)) → h.get? o = some ob → Heap.SameBut d s.heap h → wpAny (model prog w) A (forIn (List.range' i m) PUnit.unit fun i (_ : PUnit) => (do
      let es' ← dictEntries o
      match es'[i]? with
      | some e => do
        holding [e.key, e.val] (dictPut d e.hash e.key e.val)
        let n ← dictEpoch o
        if (n != ep) = true then do
          (unsupported "dict.changed-during-merge" : Sem PUnit)
          pure (ForInStep.yield PUnit.unit)
        else pure (ForInStep.yield PUnit.unit)
      | _ => do
        (unsupported "dict.changed-during-merge" : Sem PUnit)
        pure (ForInStep.yield PUnit.unit) : Sem (ForInStep PUnit))) (fun _ s' => Q () s') E { s with heap := h } := by
    intro m
    induction m with
    | zero =>
      intro i h e1 e2 _ e4
      have ei : i = more.length := by omega
      rw [ei, List.take_length] at e2
      exact wpAny_pure (q h e2 e4)
    | succ m ih =>
      intro i h e1 e2 e3 e4
      have lt : i < es.size := by omega
      have ltm : i < more.length := by omega
      rw [List.range'_succ, List.forIn_cons]
      obtain ⟨hk, hv⟩ := prs.get? (i := i) (e := es[i]) (k := more[i].1) (v := more[i].2) (by rw [Array.getElem?_toList, Array.getElem?_eq_getElem lt]) (List.getElem?_eq_getElem ltm)
      obtain ⟨k2, hk2, hh⟩ := keys es[i] (Array.getElem_mem lt)
      have ek : k2 = more[i].1 := knd.inj _ _ _ hk2 hk
      have z2 : (merged kvs (more.take i)).length ≤ sizeLine := Nat.le_trans (merged_length_le _ _) (by rw [List.length_take]; omega)
      refine wpAny_bind (wpAny_bind (wpAny_dictEntries (s := { s with heap := h }) e3 dat ?_))
      rw [Array.getElem?_eq_getElem lt]
      refine wpAny_bind (wpAny_holding ?_)
      rw [hh, ek]
      refine put_kv (s := { s with heap := h }) hk e2 z2 fun h2 d2 s2 => ?_
      have e3' : h2.get? o = some ob := (s2.2 o (Ne.symm ne)).trans e3
      refine wpAny_bind (wpAny_dictEpoch (s := { s with heap := h2 }) e3' dat ?_)
      rw [if_neg (by rw [bne_self_eq_false]; exact Bool.false_ne_true)]
      refine wpAny_pure (ih (i + 1) h2 (by omega) ?_ e3' (e4.trans s2))
      rw [merged_take_succ kvs more i more[i] (List.getElem?_eq_getElem ltm), ← hv]
      exact d2
  have rest : wpAny (model prog w) A (do
      let es' ← dictEntries o
      let n ← dictEpoch o
      forIn (List.range es'.size) PUnit.unit fun i (_ : PUnit) => (do
        let es' ← dictEntries o
        match es'[i]? with
        | some e => do
          holding [e.key, e.val] (dictPut d e.hash e.key e.val)
          let n' ← dictEpoch o
          if (n' != n) = true then do
            (unsupported "dict.changed-during-merge" : Sem PUnit)
            pure (ForInStep.yield PUnit.unit)
          else pure (ForInStep.yield PUnit.unit)
        | _ => do
          (unsupported "dict.changed-during-merge" : Sem PUnit)
          pure (ForInStep.yield PUnit.unit) : Sem (ForInStep PUnit))
      pure ()) Q E s := by
    refine wpAny_bind (wpAny_dictEntries get dat (wpAny_bind (wpAny_dictEpoch get dat (wpAny_bind ?_))))
    rw [List.range_eq_range']
    exact wpAny_mono (go es.size 0 s.heap (Nat.zero_add _) hd get (Heap.SameBut.refl _ _)) (fun _ _ h => wpAny_pure h) fun _ _ h => h
  by_cases em : es0.isEmpty = true
  · rw [if_pos em]
    refine wpAny_bind (wpAny_dictEntries get dat (wpAny_bind ?_))
    refine wpAny_forIn_array' _ (fun l _ s' => s' = s ∧ ∀ e ∈ l, e ∈ es) _ (fun e l _ s' h => ?_) (fun _ s' h => by rw [h.1]; exact rest) _ _ ⟨rfl, fun e he => by rwa [Array.mem_toList_iff] at he⟩
    obtain ⟨k, hk, _⟩ := keys e (h.2 e List.mem_cons_self)
    have bv := knd.byValue k _ hk
    obtain ⟨rfl, hl⟩ := h
    rcases ek : e.key <;> first | exact wpAny_pure ⟨rfl, fun x hx => hl x (List.mem_cons_of_mem _ hx)⟩ | (rw [ek] at bv; exact absurd (show false = true from bv) Bool.false_ne_true)
  · rw [if_neg em]
    exact rest
end
section
variable {X : Cx}
/-- {**d, k: n} -/
def tStar (td tk tv : TE) : TE := fun σ H Q => ∀ p, H p = none → td σ (upd H p (.dK [])) fun x H1 => ∃ a kvs, x = .ref a ∧ H1 p = some (.dK []) ∧ p ≠ a ∧ Rd H1 a (.dK kvs) ∧
  ∀ q, (upd H1 p (.dK kvs)) q = none → tk σ (upd (upd H1 p (.dK kvs)) q (.dK [])) fun y H2 => tv σ H2 fun z H3 => ∃ k kvs2, y = kV k ∧ H3 p = some (.dK kvs2) ∧ H3 q = some (.dK []) ∧ p ≠ q ∧ kvs2.length < sizeLine ∧
    Q (.ref p) (upd (upd H3 q (.dK (mergeK [] [(k, z)]))) p (.dK (mergeK kvs2 [(k, z)])))
theorem pe_star {de ke ve : Expr} {pos : Pos} {td tk tv : TE} (hd : PE X de td) (hk : PE X ke tk) (hv : PE X ve tv) : PE X (.Dict [none, some ke] [de, ve] pos) (tStar td tk tv) := by
  refine ⟨fun pins s σ H Q I h => ?_⟩
  rw [arm_eval_Dict]
  refine wpAny_bind (wpAny_standAt ?_)
  show wpAny _ _ (dictDisplay [(none, do let x ← eval de X.env; standAt pos; pure x), (some (eval ke X.env), do let x ← eval ve X.env; standAt pos; pure x)]) _ _ _
  have np := I.hok.fresh (Nat.le_refl s.heap.objs.size)
  have I1 := I.laid (a := s.heap.objs.size) (o := .dK []) (h' := s.heap.push { cls := .type "dict", data := .dict #[] }) (t' := s.toks) (fun _ _ q => Heap.get?_push_of_some _ q) (Nat.le_refl _) (dk_empty s.heap I.big)
  have h := h _ np
  unfold dictDisplay
  dsimp only
  rw [List.forIn_cons]
  refine wpAny_bind (wpAny_bind (wpAny_bind ?_))
  refine wpAny_of_eq (a := (none : Option Addr)) (if_pos rfl) ?_
  refine wpAny_bind (wpAny_alloc ?_)
  generalize s.heap.objs.size = p at np I1 h ⊢
  refine wpAny_bind (wpAny_holding (wpAny_bind (thn (hd.run pins _ σ _ _ I1 h) fun u s1 ⟨x, H1, J1, rx, a, kvs, ex, hp1, ne, rd, h1⟩ => wpAny_bind (wpAny_standAt (wpAny_pure ?_)))))
  subst ex
  obtain rfl : u = Value.ref a := rx
  obtain ⟨z0, _, vs0, r0, d0⟩ := dk_of J1.hok hp1
  cases r0
  obtain ⟨z1, sy, vs1, r1, d1⟩ := dk_rd J1.hok rd
  have zz : vs1.length ≤ sizeLine := by rw [← r1.length]; exact z1
  have nd1 : (vs1.map (·.1)).Nodup := d1.choose_spec.choose_spec.choose_spec.2.2.2.2.2
  refine wpAny_bind (wpAny_onRaise (wpAny_tryCatch (wpAny_onRaise (wpAny_holding (merge_kv ne sy d0 d1 (by rw [List.length_nil, Nat.zero_add]; exact zz) fun h2 d2 sb => ?_)))))
  rw [merged_nil_of_nodup vs1 nd1] at d2
  have J2 : L2.Inv X pins σ (upd H1 p (.dK kvs)) { s1 with heap := h2 } :=
    d_write J1 (by rw [hp1]; exact True.intro) sb (let ⟨q, _, _, hq, _⟩ := d2; ⟨q, hq⟩) (dk_new z1 (dk_of J1.hok hp1).2.1 r1 d2)
  generalize ({ s1 with heap := h2 } : Shared) = s2 at J2 ⊢
  refine wpAny_pure ?_
  dsimp only
  rw [List.forIn_cons]
  refine wpAny_bind (wpAny_of_eq (a := ForInStep.yield (some p, [(eval ke X.env, do let x ← eval ve X.env; standAt pos; pure x)])) (if_neg (by exact (by decide : ¬ (1 == 17) = true))) ?_)
  dsimp only
  rw [List.forIn_nil]
  refine wpAny_pure ?_
  refine wpAny_bind ?_
  rw [if_neg (by exact (by decide : ¬ false = true))]
  dsimp only
  refine wpAny_bind (wpAny_holding ?_)
  have nq := J2.hok.fresh (Nat.le_refl s2.heap.objs.size)
  have J3 := J2.laid (a := s2.heap.objs.size) (o := .dK []) (h' := s2.heap.push { cls := .type "dict", data := .dict #[] }) (t' := s2.toks) (fun _ _ q => Heap.get?_push_of_some _ q) (Nat.le_refl _) (dk_empty s2.heap J2.big)
  have hh := h1 _ nq
  have prs : PPs X pos [some ke] [ve] [(tk, tv)] := pps_cons hk hv pps_nil
  refine wpAny_subDict (knd := mixKind X.prog X.w) (by exact (by decide : 1 ≤ 15)) ?_
  generalize s2.heap.objs.size = q at nq J3 hh ⊢
  refine thn (prs.run pins _ σ _ (fun ps H4 => match ps with | [(y, z)] => (∃ k kvs2, y = kV k ∧ H4 p = some (.dK kvs2) ∧ H4 q = some (.dK []) ∧ p ≠ q ∧ kvs2.length < sizeLine ∧ Q (.ref p) (upd (upd H4 q (.dK (mergeK [] [(k, z)]))) p (.dK (mergeK kvs2 [(k, z)])))) | _ => False) J3 hh) fun ws s4 h4 => ?_
  · obtain ⟨ps, H4, J4, rel, h4⟩ := h4
    split at h4
    case h_2 => exact h4.elim
    obtain ⟨k, kvs2, ey, hp4, hq4, npq, z4, qq⟩ := h4
    subst ey
    rename_i z
    obtain ⟨rs, c, rk⟩ := carries_of (P := X.prog) (w := X.w) (kvs := [(k, z)]) rel
    obtain ⟨_, sq, v0, r0, dd⟩ := dk_of J4.hok hq4
    cases r0
    refine ⟨rs, c, dd, fun h5 dd5 sb5 => ?_⟩
    have one : (mergeK [] [(k, z)]).length ≤ sizeLine := Nat.le_trans (length_mergeK [(k, z)] []) (by rw [sizeLine_eq]; exact Nat.le_of_ble_eq_true rfl)
    have J5 : L2.Inv X pins σ (upd H4 q (.dK (mergeK [] [(k, z)]))) { s4 with heap := h5, toks := s4.toks + ws.length } :=
      d_write J4 (by rw [hq4]; exact True.intro) sb5 (let ⟨u, _, _, hu, _⟩ := dd5; ⟨u, hu⟩) (dk_new one sq (rk.merge .nil) dd5)
    have hp5 : (upd H4 q (.dK (mergeK [] [(k, z)]))) p = some (.dK kvs2) := by rw [upd_ne npq]; exact hp4
    obtain ⟨_, sp, v5, r5, d5⟩ := dk_of J5.hok hp5
    obtain ⟨_, _, v6, r6, d6⟩ := dk_of J5.hok (upd_same (H := H4) (a := q))
    have z5 : (mergeK kvs2 [(k, z)]).length ≤ sizeLine := Nat.le_trans (length_mergeK [(k, z)] kvs2) z4
    have l5 : v5.length + v6.length ≤ sizeLine := by rw [← r5.length, ← r6.length]; exact z4
    refine wpAny_bind (wpAny_onRaise (wpAny_holding (merge_kv npq sq d5 d6 l5 fun h7 d7 sb7 => wpAny_pure (wpAny_pure ⟨.ref p, _, ?_, rfl, qq⟩))))
    exact d_write J5 (by rw [hp5]; exact True.intro) sb7 (let ⟨u, _, _, hu, _⟩ := d7; ⟨u, hu⟩) (dk_new z5 sp (r6.merge r5) d7)
end
end Kp


namespace Kp
open PySem PySem.Spec PyProof.Rows L2
/-! ### a dict of numbers by texts, with one more -/
section
variable {X : Cx} {w0 : Wl} {ss : SS} {st : Store} {pos : Pos}
theorem Sl.less {K : PySem.W.Frag} {w : Wl} {σ : L2.St} {st2 : Store} (h : Sl K (w0.at st2) w σ ss) (i : ∀ x ∈ st, x ∈ st2) (nd : (st.map (·.1)).Nodup) : Sl K (w0.at st) w σ ss :=
  ⟨⟨h.le.g, h.le.h, h.le.hid⟩, h.len, h.at_, h.ap, h.fr, ⟨fun q b cs n => h.so.key (i _ n), nd⟩, fun j ds q e1 e2 b cs n => h.sd j ds q e1 e2 b cs (i _ n)⟩
/-- what a dict of numbers is read of -/
def regIs (st : Store) (m : List (Str × Int)) (x : AV) : Prop := x = .reg m ∨ ∃ p, x = .at_ p ∧ (p, Ck.dct m, []) ∈ st
/-- {**d, k: n} -/
theorem mn_star {de ke ve : Expr} {m : List (Str × Int)} {k : Str} {n : Int} {R : List AV → Prop}
    (h : KE X (w0.at st) de ss fun x => regIs st m x ∧ m.length < 100000 ∧ KE X (w0.at st) ke ss fun y => y = .dat (.str k) ∧ KE X (w0.at st) ve ss fun z => z = .dat (.int n) ∧ R []) :
    MNw X w0 (.dct (regPut m k n)) (.Dict [none, some ke] [de, ve] pos) st ss R :=
  PE.imp (pe_star h (pe_an (w0 := w0.at st) (ss := ss)) (pe_an (w0 := w0.at st) (ss := ss))) fun σ H Q ⟨w, ew, hs, q⟩ => by
    subst ew
    intro p hp
    have lA := Le.own (w := w) (o := .dK []) hp
    refine ⟨w.own p (.dK []) (w.gfree hp), rfl, hs.mono lA, fun v x w1 l1 hv ⟨hx, hz, hk⟩ => ?_⟩
    have l01 := lA.trans l1
    have p1 : w1.h p = some (.dK []) := l1.h _ _ upd_same
    have g1 : w1.g p = none := l1.hid p (by show upd w.h p _ p ≠ none; rw [upd_same]; exact fun e => nomatch e) (w.gfree hp)
    have hs1 := hs.mono l01
    have src : ∃ a, v = .ref a ∧ p ≠ a ∧ w1.h a = some (.dK (regK m)) := by
      rcases hx with rfl | ⟨a, rfl, mm⟩
      · obtain ⟨a, rfl, ha⟩ := hv
        exact ⟨a, rfl, fun e => (by rw [e, ha] at g1; exact nomatch g1), w1.sub _ _ ha⟩
      · cases hv
        obtain ⟨_, _, us, u1, u2, u3⟩ := hs.so.key mm
        cases u3
        exact ⟨a, rfl, fun e => (by rw [e, u1] at hp; exact nomatch hp), l01.h _ _ u1⟩
    obtain ⟨a, rfl, ne, ha⟩ := src
    refine ⟨a, regK m, rfl, p1, ne, .inl ha, fun r hr => ?_⟩
    obtain ⟨fr, hs2⟩ := Sl.new (b := .dct []) (vs := []) (as := []) hs l01 hp p1 g1 .nil rfl
    have hs3 := hs2.putD (m := m) List.mem_cons_self g1
    have hs4 : Sl X.K (w0.at st) (w1.own p (.dK (regK m)) g1) σ ss := hs3.less (fun y hy => by
      obtain ⟨y1, y2, y3⟩ := y
      exact stPut_ne (List.mem_cons_of_mem _ hy) fun e => (by
        subst e
        obtain ⟨_, _, us, u1, _⟩ := hs.so.key hy
        rw [hp] at u1
        exact nomatch u1)) hs.so.nd
    have hr : (w1.own p (.dK (regK m)) g1).h r = none := hr
    have lC := Le.own (o := .dK []) hr
    have pr : p ≠ r := fun e => (by rw [← e] at hr; rw [show (w1.own p (.dK (regK m)) g1).h p = _ from upd_same] at hr; exact nomatch hr)
    refine ⟨_, hk, _, rfl, hs4.mono lC, fun v2 y w2 l2 hv2 ⟨ey, hv'⟩ => ?_⟩
    subst ey
    cases hv2
    refine ⟨_, hv', w2, rfl, (hs4.mono lC).mono l2, fun v3 z w3 l3 hv3 ⟨ez, hR⟩ => ?_⟩
    subst ez
    cases hv3
    have l13 := lC.trans (l2.trans l3)
    have p3 : w3.h p = some (.dK (regK m)) := l13.h _ _ upd_same
    have r3 : w3.h r = some (.dK []) := (l2.trans l3).h _ _ upd_same
    have gp : w3.g p = none := l13.hid p (by show upd w1.h p _ p ≠ none; rw [upd_same]; exact fun e => nomatch e) g1
    have gr : w3.g r = none := (l2.trans l3).hid r (by show upd _ r _ r ≠ none; rw [upd_same]; exact fun e => nomatch e) (Wl.gfree (w1.own p (.dK (regK m)) g1) hr)
    have hlen : (regK m).length < sizeLine := by
      unfold regK
      rw [List.length_map]
      exact Nat.lt_of_lt_of_le hz (by decide)
    refine ⟨.inr k, regK m, rfl, p3, r3, pr, hlen, ?_⟩
    have em : mergeK (regK m) [(.inr k, .int n)] = regK (regPut m k n) := putK_reg k n m
    rw [em]
    refine q p [] [] ((w3.own r (.dK (mergeK [] [(.inr k, .int n)])) gr).own p (.dK (regK (regPut m k n))) gp) ⟨l01.g.trans l13.g, fun b o e => ?_, fun b e1 e2 => ?_⟩ hp upd_same gp .nil rfl hR
    · have bp : b ≠ p := ne_of_none e hp
      have b2 : (w1.own p (.dK (regK m)) g1).h b = some o := (upd_ne bp).trans (l01.h _ _ e)
      have br : b ≠ r := ne_of_none b2 hr
      exact ((upd_ne bp).trans (upd_ne br)).trans (l13.h _ _ b2)
    · refine l13.hid b (fun e3 => ?_) (l01.hid b e1 e2)
      cases e : w.h b with
      | none => exact e1 e
      | some o =>
        have bp : b ≠ p := ne_of_none e hp
        have b2 : (w1.own p (.dK (regK m)) g1).h b = some o := (upd_ne bp).trans (l01.h _ _ e)
        rw [b2] at e3
        exact nomatch e3
end
end Kp


namespace Kp
open PySem PySem.Spec PyProof.Rows L2
/-! ### a dict comprehension of two clauses without tests: its two loops -/
abbrev dcE (kx vx t0 i0 t1 i1 : Expr) (scope : Scope) (pos : Pos) : Expr := .DictComp kx vx [⟨t0, i0, [], 0⟩, ⟨t1, i1, [], 0⟩] scope pos
section
variable {prog : Program} {w : World} {A : Around} {R : Result → Shared → Prop} {s : Shared} {kx vx t0 i0 t1 i1 : Expr} {scope : Scope} {pos : Pos} {it : Value} {D : Addr} {env : Env}
/-- what goes on behind an item that was taken -/
def Taken (prog : Program) (w : World) (A : Around) (R : Result → Shared → Prop) (env : Env) (t : Expr) (it : Value) (v : Value) (rest : Shared → Prop) (s : Shared) : Prop :=
  wpAny (model prog w) A (letOwnedTupleGo t it v) (fun _ s1 => wpAny (model prog w) A (assign t env v) (fun _ s2 => rest s2) (notedBy (model prog w) A env fun e s' => R (.error e) s') s1) (notedBy (model prog w) A env fun e s' => R (.error e) s') s
theorem dc_inner (I : Nat → Shared → Prop)
    (turn : ∀ n s, I n s → wpAny (model prog w) A (pyNext it) (fun r s1 => match r with
      | none => R (.ok .next) s1
      | some v => Taken prog w A R env t1 it v (fun s2 => wpAny (model prog w) A (eval kx env) (fun kv s3 => wpAny (model prog w) A (eval vx env) (fun vv s4 =>
          wpAny (model prog w) A (dictSet D kv vv) (fun _ s5 => ∃ m, m < n ∧ I m s5) (notedBy (model prog w) A env fun e s' => R (.error e) s') s4) (notedBy (model prog w) A env fun e s' => R (.error e) s') s3) (notedBy (model prog w) A env fun e s' => R (.error e) s') s2) s1)
      (notedBy (model prog w) A env fun e s' => R (.error e) s') s) (n : Nat) (h : I n s) :
    codeAny (model prog w) A (.compLoop (dcE kx vx t0 i0 t1 i1 scope pos) 1 it (.ref D) env) R s := by
  refine codeAny_loop rfl I (fun n s hI => wpAny_noted ?_) n h
  unfold compTurn
  dsimp only [List.getElem?_cons_succ, List.getElem?_cons_zero, List.getElem?_nil]
  refine wpAny_bind (wpAny_standAt (wpAny_bind (thn (turn n s hI) fun r s1 h1 => ?_)))
  rcases r with _ | v
  · exact wpAny_pure h1
  · refine wpAny_bind (thn h1 fun _ s2 h2 => wpAny_bind (thn h2 fun _ s3 h3 => ?_))
    rw [List.forIn_nil]
    refine wpAny_bind (wpAny_pure ?_)
    rw [if_pos rfl]
    exact wpAny_bind (wpAny_bind (thn h3 fun kv s4 h4 => wpAny_bind (wpAny_holding (thn h4 fun vv s5 h5 => wpAny_bind (wpAny_standAt (wpAny_holding (thn h5 fun _ s6 h6 => wpAny_pure ⟨rfl, h6⟩)))))))
theorem dc_outer (hs : ∀ x, foldedSetIterable i1 env x = pure x) (I : Nat → Shared → Prop)
    (turn : ∀ n s, I n s → wpAny (model prog w) A (pyNext it) (fun r s1 => match r with
      | none => R (.ok .next) s1
      | some v => Taken prog w A R env t0 it v (fun s2 => wpAny (model prog w) A (eval i1 env) (fun x s3 => wpAny (model prog w) A (pyIter x) (fun j s4 =>
          codeAny (model prog w) A (.compStart (dcE kx vx t0 i0 t1 i1 scope pos) 1 j (.ref D) env) (fun r s5 => r.isOk = true ∧ ∃ m, m < n ∧ I m s5) s4)
          (notedBy (model prog w) A env fun e s' => R (.error e) s') s3) (notedBy (model prog w) A env fun e s' => R (.error e) s') s2) s1)
      (notedBy (model prog w) A env fun e s' => R (.error e) s') s) (n : Nat) (h : I n s) :
    codeAny (model prog w) A (.compLoop (dcE kx vx t0 i0 t1 i1 scope pos) 0 it (.ref D) env) R s := by
  refine codeAny_loop rfl I (fun n s hI => wpAny_noted ?_) n h
  unfold compTurn
  dsimp only [List.getElem?_cons_succ, List.getElem?_cons_zero, List.getElem?_nil]
  refine wpAny_bind (wpAny_standAt (wpAny_bind (thn (turn n s hI) fun r s1 h1 => ?_)))
  rcases r with _ | v
  · exact wpAny_pure h1
  · refine wpAny_bind (thn h1 fun _ s2 h2 => wpAny_bind (thn h2 fun _ s3 h3 => ?_))
    rw [List.forIn_nil]
    refine wpAny_bind (wpAny_pure ?_)
    rw [if_pos rfl]
    refine wpAny_bind (thn h3 fun x s4 h4 => wpAny_bind (wpAny_standAt ?_))
    refine wpAny_bind (wpAny_of_eq (hs x) (wpAny_bind (wpAny_holding (thn h4 fun j s5 h5 => wpAny_bind (wpAny_runOwn ?_)))))
    rw [Around.mark_none]
    refine codeAny_mono h5 fun r s6 h6 => ?_
    rcases r with e | f
    · exact nomatch h6.1
    · exact wpAny_pure ⟨rfl, h6.2⟩
/-- the second clause's start: the loop, from the iterator or from its own iterator -/
theorem dc_start1 (h0 : codeAny (model prog w) A (.compLoop (dcE kx vx t0 i0 t1 i1 scope pos) 1 it (.ref D) env) R s)
    (h : wpAny (model prog w) A (pyIter it) (fun j s' => codeAny (model prog w) A (.compLoop (dcE kx vx t0 i0 t1 i1 scope pos) 1 j (.ref D) env) R s') (notedBy (model prog w) A env fun x s' => R (.error x) s') s) :
    codeAny (model prog w) A (.compStart (dcE kx vx t0 i0 t1 i1 scope pos) 1 it (.ref D) env) R s := by
  refine codeAny_of_tree (wpAny_notedAt ?_)
  unfold compStart
  dsimp only [List.getElem?_cons_succ, List.getElem?_cons_zero, clausesOf]
  refine wpAny_bind (wpAny_askSetting (wpAny_ite ?_))
  split
  · exact wpAny_pure ⟨rfl, h0⟩
  · exact wpAny_bind (wpAny_rule (wpAny_bind (wpAny_standAt (wpAny_bind (thn h fun j s' h' => wpAny_pure ⟨rfl, h'⟩)))))
end
end Kp


namespace Kp
open PySem PySem.Spec PyProof.Rows L2
/-! ### a loop that is known by its turns, walked over what an iterator yields -/
section
variable {X : Cx} {pins : List (Addr × Obj)} {tg : Expr} {J : It} {fp : List Addr} {it : Addr} {tn : Nat → Heap → Prop} {g : TG} {R : Result → Shared → Prop}
theorem walk_T (T : Turn X.prog X.w X.K tg J fp it tn) (hc : X.calm = true) (hx : X.xe = fun _ _ => False) (pg : PG X tg g) {σ : L2.St} (B : (Shared → Prop) → Shared → Prop) (Rn : Shared → Prop) (C : Shared → Prop) (W : Nat → Nat → Hp → Prop)
    (stat : ∀ H s, Inv X pins σ H s → (∀ b ∈ fp, H b = none) → ∀ b ∈ fp, FpOk X pins H b)
    (loop : ∀ I : Nat → Shared → Prop, (∀ n s, I n s → wpAny (model X.prog X.w) X.A (pyNext (.ref it)) (fun r s1 => match r with
      | none => Rn s1
      | some v => Taken X.prog X.w X.A R X.env tg (.ref it) v (B fun s' => ∃ m, m < n ∧ I m s') s1) (notedBy (model X.prog X.w) X.A X.env fun e s' => R (.error e) s') s) → ∀ n s, I n s → C s)
    (turn : ∀ i n H, W i n H → (J.stop i H ∧ ∀ s, Inv X pins σ H s → Rn s) ∨ (J.go i H ∧ ∃ Nx : Hp → Prop, (∀ H', Nx H' → ∃ m, m < n ∧ W (i + 1) m H') ∧ ∃ G : L2.St → Hp → Prop, (∀ x H', J.yld i H x H' → g x σ H' G) ∧ ∀ σ2 H2, G σ2 H2 →
      ∀ (more : List (Addr × Obj)) (s2 : Shared), Inv X (pins ++ more) σ2 H2 s2 → ∀ Z : Shared → Prop, (∀ σ3 H3 s3, Inv X (pins ++ more) σ3 H3 s3 → σ.length = σ3.length → (∀ (j : Nat) v, σ[j]? = some (some v) → σ3[j]? = some (some v)) → Nx H3 → Z s3) → B Z s2))
    {H : Hp} {s : Shared} {m : Nat} (I : Inv X pins σ H s) (st : tn 0 s.heap) (fr : ∀ b ∈ fp, H b = none) (w : W 0 m H) : C s := by
  refine loop (fun n s' => ∃ i H', Inv X pins σ H' s' ∧ tn i s'.heap ∧ (∀ b ∈ fp, H' b = none) ∧ W i n H') (fun n s1 ⟨i, H1, I1, st1, fr1, w1⟩ => ?_) m s ⟨0, H, I, st, fr, w⟩
  rcases turn i n H1 w1 with ⟨stop, q⟩ | ⟨go, Nx, hN, G, step, after⟩
  · refine thn (T.done X rfl rfl rfl hc i pins s1 σ H1 _ I1 (stat _ _ I1 fr1) st1 stop) fun r s2 ⟨hr, I2⟩ => ?_
    subst hr
    exact q s2 I2
  · refine thn (T.item X rfl rfl rfl hc i pins s1 σ H1 _ I1 (stat _ _ I1 fr1) st1 go) fun r s2 ⟨u, hr, h2⟩ => ?_
    subst hr
    refine thn h2 fun _ s3 ⟨x, H3, I3, r3, y3, st3, fr3⟩ => ?_
    have I3' := I3.pinned (stat _ _ I3 fr3) (T.obj _ _ st3)
    have pr := pg.run _ s3 _ H3 x u _ I3' r3 (step x H3 y3)
    rw [hx] at pr
    refine thnF pr fun _ s4 ⟨σ4, H4, I4, q4⟩ => ?_
    refine after _ _ q4 _ s4 I4 _ fun σ5 H5 s5 I5 l5 k5 nx => ?_
    obtain ⟨m', lt, w'⟩ := hN H5 nx
    have pin : ∀ b ∈ fp, ∀ o, s3.heap.get? b = some o → s5.heap.get? b = some o ∧ H5 b = none := fun b hb o e =>
      let z := I5.pin (b, o) (List.mem_append_right _ (List.mem_append_right _ (mem_pinsAt hb e)))
      ⟨z.1, z.2.1⟩
    refine ⟨m', lt, i + 1, H5, I5.unpinned.weak l5 k5, T.keep _ _ _ st3 fun b hb o e => (pin b hb o e).1, fun b hb => ?_, w'⟩
    obtain ⟨o, e, _⟩ := T.obj _ _ st3 b hb
    exact (pin b hb o e).2
/-- {k: v for tg in iter for tg1 in iter1}, D the new dict: what its turns must do -/
def DcTurns (J : It) (g : TG) (wi1 : TI) (g1 : TG) (tk tv : TE) (vs vs1 : List Nat) (D : Addr) (σ : L2.St) (W : Nat → Nat → Hp → Prop) (E : Hp → Prop) : Prop :=
  ∀ i m H, W i m H → (J.stop i H ∧ E H) ∨ (J.go i H ∧ ∃ Nx : Hp → Prop, (∀ H', Nx H' → ∃ m', m' < m ∧ W (i + 1) m' H') ∧ ∀ x H', J.yld i H x H' → g x (wipe σ vs) H' fun σ2 H2 => wipe σ2 vs = wipe σ vs ∧ wi1 σ2 H2 fun J1 H4 =>
    ∃ W1 : Nat → Nat → Hp → Prop, (∃ m, W1 0 m H4) ∧ ∀ j k H, W1 j k H → (J1.stop j H ∧ Nx H) ∨ (J1.go j H ∧ ∃ Nx1 : Hp → Prop, (∀ H', Nx1 H' → ∃ k', k' < k ∧ W1 (j + 1) k' H') ∧ ∀ x H', J1.yld j H x H' → g1 x (wipe σ2 vs1) H' fun σ3 H5 => wipe σ3 vs1 = wipe σ2 vs1 ∧
      tk σ3 H5 fun y H6 => tv σ3 H6 fun z H7 => ∃ kvs k, y = kV k ∧ H7 D = some (.dK kvs) ∧ kvs.length < sizeLine ∧ Nx1 (upd H7 D (.dK (putK kvs k z)))))
theorem known_wipe {σ σ2 : L2.St} {vs : List Nat} (e : wipe σ2 vs = wipe σ vs) : (wipe σ vs).length = σ2.length ∧ ∀ (j : Nat) v, (wipe σ vs)[j]? = some (some v) → σ2[j]? = some (some v) :=
  ⟨by rw [← e, wipe_length], fun j v h => by rw [← e] at h; exact (wipe_some h).1⟩
theorem dc2_block {kx vx iter iter1 tg1 : Expr} {scope : Scope} {pos : Pos} {wi1 : TI} {g1 : TG} {tk tv : TE} {vs vs1 : List Nat} {D : Addr} {σ : L2.St} (T : Turn X.prog X.w X.K tg J fp it tn) (hc : X.calm = true) (hx : X.xe = fun _ _ => False)
    (hv : ∀ i ∈ vs1, i ∈ vs) (pg : PG X tg g) (pi1 : PI X tg1 iter1 wi1) (pg1 : PG X tg1 g1) (pk : PE X kx tk) (pv : PE X vx tv) (hs : ∀ x, foldedSetIterable iter1 X.env x = pure x)
    (stat : ∀ H s, Inv X pins (wipe σ vs) H s → (∀ b ∈ fp, H b = none) → ∀ b ∈ fp, FpOk X pins H b) (W : Nat → Nat → Hp → Prop) (E : Hp → Prop) (turns : DcTurns J g wi1 g1 tk tv vs vs1 D σ W E)
    (fin : ∀ H s, Inv X pins (wipe σ vs) H s → E H → R (.ok .next) s) {H : Hp} {s : Shared} {m : Nat} (I : Inv X pins (wipe σ vs) H s) (st : tn 0 s.heap) (fr : ∀ b ∈ fp, H b = none) (w : W 0 m H) :
    codeAny (model X.prog X.w) X.A (.compLoop (dcE kx vx tg iter tg1 iter1 scope pos) 0 (.ref it) (.ref D) X.env) R s := by
  refine walk_T (R := R) T hc hx pg (fun Z s2 => wpAny (model X.prog X.w) X.A (eval iter1 X.env) (fun x s3 => wpAny (model X.prog X.w) X.A (pyIter x) (fun j s4 =>
          codeAny (model X.prog X.w) X.A (.compStart (dcE kx vx tg iter tg1 iter1 scope pos) 1 j (.ref D) X.env) (fun r s5 => r.isOk = true ∧ Z s5) s4)
          (notedBy (model X.prog X.w) X.A X.env fun e s' => R (.error e) s') s3) (notedBy (model X.prog X.w) X.A X.env fun e s' => R (.error e) s') s2)
    (fun s => R (.ok .next) s) (fun s => codeAny (model X.prog X.w) X.A (.compLoop (dcE kx vx tg iter tg1 iter1 scope pos) 0 (.ref it) (.ref D) X.env) R s) W stat (fun I turn n s h => dc_outer hs I turn n h) (fun i n H w => ?_) I st fr w
  rcases turns i n H w with ⟨stop, e⟩ | ⟨go, Nx, hN, step⟩
  · exact .inl ⟨stop, fun s I => fin H s I e⟩
  · refine .inr ⟨go, Nx, hN, _, step, fun σ2 H2 ⟨hw, q⟩ more s2 I2 Z hZ => ?_⟩
    have pr := pi1.run _ s2 σ2 H2 _ I2 q
    rw [hx] at pr
    refine thnF pr fun xv s3 h3 => thnF h3 fun itv s4 h4 => ?_
    obtain ⟨it1, fp1, tn1, J1, H4, e1, I4, T1, st4, f4, W1, ⟨m1, w1⟩, turn1⟩ := h4
    subst e1
    obtain ⟨kl, kk⟩ := known_wipe hw
    have inner : codeAny (model X.prog X.w) X.A (.compLoop (dcE kx vx tg iter tg1 iter1 scope pos) 1 (.ref it1) (.ref D) X.env) (fun r s5 => r.isOk = true ∧ Z s5) s4 := by
      refine walk_T (R := fun r s5 => r.isOk = true ∧ Z s5) (σ := wipe σ2 vs1) (pins := pins ++ more) T1 hc hx pg1 (fun Z' s2 => wpAny (model X.prog X.w) X.A (eval kx X.env) (fun kv s3 => wpAny (model X.prog X.w) X.A (eval vx X.env) (fun vv s4 =>
          wpAny (model X.prog X.w) X.A (dictSet D kv vv) (fun _ s5 => Z' s5) (notedBy (model X.prog X.w) X.A X.env fun e s' => (Except.error e : Result).isOk = true ∧ Z s') s4) (notedBy (model X.prog X.w) X.A X.env fun e s' => (Except.error e : Result).isOk = true ∧ Z s') s3) (notedBy (model X.prog X.w) X.A X.env fun e s' => (Except.error e : Result).isOk = true ∧ Z s') s2)
        (fun s => (Except.ok .next : Result).isOk = true ∧ Z s) (fun s => codeAny (model X.prog X.w) X.A (.compLoop (dcE kx vx tg iter tg1 iter1 scope pos) 1 (.ref it1) (.ref D) X.env) (fun r s5 => r.isOk = true ∧ Z s5) s) W1
        (fun H s _ hn b hb => ⟨hn b hb, (f4 b hb).2⟩) (fun I turn n s h => dc_inner I turn n h) (fun j k H w => ?_) (I4.weak (wipe_length _ _) fun j v e => (wipe_some e).1) st4 (fun b hb => (f4 b hb).1) w1
      rcases turn1 j k H w with ⟨stop1, nx⟩ | ⟨go1, Nx1, hN1, step1⟩
      · refine .inl ⟨stop1, fun s I => ⟨rfl, hZ (wipe σ2 vs1) H s I (kl.trans (wipe_length _ _).symm) (fun j v e => ?_) nx⟩⟩
        rw [← hw] at e
        obtain ⟨e2, e3⟩ := wipe_some e
        rw [wipe_out fun z => e3 (hv j z)]
        exact e2
      · refine .inr ⟨go1, Nx1, hN1, _, step1, fun σ3 H3 ⟨hw3, q3⟩ more2 s3 I3 Z2 hZ2 => ?_⟩
        obtain ⟨kl3, kk3⟩ := known_wipe hw3
        have p1 := pk.run _ s3 σ3 H3 _ I3 q3
        rw [hx] at p1
        refine thnF p1 fun u s5 ⟨y, H5, I5, ry, q5⟩ => ?_
        have p2 := pv.run _ s5 σ3 H5 _ I5 q5
        rw [hx] at p2
        refine thnF p2 fun r s6 ⟨z, H6, I6, rz, kvs, k, ey, hD, hz, nx⟩ => ?_
        subst ey
        exact d_dictSet I6 hD hz ry rz fun s7 I7 => hZ2 σ3 _ s7 I7 kl3 kk3 nx
    exact dc_start1 inner (T1.self X.A 0 _ _ _ st4 inner)
end
end Kp


namespace Kp
open PySem PySem.Spec PyProof.Rows L2
section
variable {prog : Program} {w : World} {A : Around} {R : Result → Shared → Prop} {s : Shared} {kx vx t0 i0 t1 i1 : Expr} {scope : Scope} {pos : Pos} {it : Value} {D : Addr} {env : Env}
theorem dc_start0 (h0 : codeAny (model prog w) A (.compLoop (dcE kx vx t0 i0 t1 i1 scope pos) 0 it (.ref D) env) R s)
    (h : wpAny (model prog w) A (pyIter it) (fun j s' => codeAny (model prog w) A (.compLoop (dcE kx vx t0 i0 t1 i1 scope pos) 0 j (.ref D) env) R s') (notedBy (model prog w) A env fun x s' => R (.error x) s') s) :
    codeAny (model prog w) A (.compStart (dcE kx vx t0 i0 t1 i1 scope pos) 0 it (.ref D) env) R s := by
  refine codeAny_of_tree (wpAny_notedAt ?_)
  unfold compStart
  dsimp only [List.getElem?_cons_succ, List.getElem?_cons_zero, clausesOf]
  refine wpAny_bind (wpAny_askSetting (wpAny_ite ?_))
  split
  · exact wpAny_pure ⟨rfl, h0⟩
  · exact wpAny_bind (wpAny_rule (wpAny_bind (wpAny_standAt (wpAny_bind (thn h fun j s' h' => wpAny_pure ⟨rfl, h'⟩)))))
end
section
variable {X : Cx}
def tDc2 (wi : TI) (g : TG) (wi1 : TI) (g1 : TG) (tk tv : TE) (vs vs1 : List Nat) : TE := fun σ H Q => wi σ H fun J H1 => ∀ D, H1 D = none → ∃ W : Nat → Nat → Hp → Prop, (∃ m, W 0 m (upd H1 D (.dK []))) ∧ DcTurns J g wi1 g1 tk tv vs vs1 D σ W fun H => Q (.ref D) H
abbrev InBlk (X : Cx) (scope : Scope) (P : Cx → Prop) : Prop := ∀ (s : Shared) (H : Hp) (C : Addr) (cl : List (Str × Addr)) (fp : List Addr), P (X.blk s H scope (compEnvC scope cl C X.env) fp)
theorem pe_dc2 {kx vx tg iter tg1 iter1 : Expr} {scope : Scope} {own : List (Str × Nat)} {vs1 : List Nat} {pos : Pos} {wi wi1 : TI} {g g1 : TG} {tk tv : TE} (hc : X.calm = true) (hN : X.N.Nodup) (hi : PI X tg iter wi) (ok : BlkOk X.N X.env.scope scope own) (hv : ∀ i ∈ vs1, i ∈ own.map (·.2))
    (hg : InBlk X scope fun Y => PG Y tg g) (hi1 : InBlk X scope fun Y => PI Y tg1 iter1 wi1) (hg1 : InBlk X scope fun Y => PG Y tg1 g1) (hk : InBlk X scope fun Y => PE Y kx tk) (he : InBlk X scope fun Y => PE Y vx tv)
    (hs : ∀ x, foldedSetIterable iter X.env x = pure x := by intro _; rfl) (hs1 : ∀ env x, foldedSetIterable iter1 env x = pure x := by intro _ _; rfl) : PE X (dcE kx vx tg iter tg1 iter1 scope pos) (tDc2 wi g wi1 g1 tk tv (own.map (·.2)) vs1) := by
  refine ⟨fun pins s σ H Q I h => ?_⟩
  rw [arm_eval_DictComp]
  refine wpAny_comprehension_free rfl hs (closure_ok fun y hy e => I.ok.has _ (ok.free y hy e)) ok.kind (fun y hy e => by rw [ok.uniq y hy, e]) (thn (hi.run pins s σ H _ I h) fun xv s1 hx => thn hx fun itv s2 ⟨it, fp, tn, J, H2, e, I2, T, st2, f2, q⟩ => ?_)
  subst e
  refine wpAny_newObj_type (newEnv_comp ?_)
  have hn := I2.hok.fresh (Nat.le_refl s2.heap.objs.size)
  obtain ⟨W, ⟨m0, w0⟩, turns⟩ := q _ hn
  have I3 := I2.laid (a := s2.heap.objs.size) (o := .dK []) (h' := s2.heap.push { cls := .type "dict", data := .dict #[] }) (t' := s2.toks) (fun _ _ e => Heap.get?_push_of_some _ e) (Nat.le_refl _) (dk_empty s2.heap I2.big)
  have old : ∀ b ∈ fp, b < s2.heap.objs.size := fun b hb => let ⟨_, e, _⟩ := T.obj _ _ st2 b hb; Heap.lt_size e
  have st3 : tn 0 ({ s2 with heap := s2.heap.push { cls := .type "dict", data := .dict #[] }, toks := s2.toks } : Shared).heap := T.keep _ _ _ st2 fun b _ o e => Heap.get?_push_of_some _ e
  have f3 : ∀ b ∈ fp, FpOk X pins (upd H2 s2.heap.objs.size (.dK [])) b ∧ b < ({ s2 with heap := s2.heap.push { cls := .type "dict", data := .dict #[] }, toks := s2.toks } : Shared).heap.objs.size := fun b hb =>
    ⟨⟨(upd_ne (Nat.ne_of_lt (old b hb))).trans (f2 b hb).1, (f2 b hb).2⟩, by show b < (s2.heap.push _).objs.size; rw [Heap.size_push]; exact Nat.lt_succ_of_lt (old b hb)⟩
  generalize s2.heap.objs.size = D at hn w0 turns I3 f3 ⊢
  generalize ({ s2 with heap := s2.heap.push { cls := .type "dict", data := .dict #[] }, toks := s2.toks } : Shared) = s3 at I3 f3 st3 ⊢
  have I4 := block_start I3 ok hN f3
  have st4 : tn 0 (pushCells (s3.heap.push { cls := .type "dict", data := .dict #[] }) scope.names) := T.keep _ _ _ st3 fun b _ o e => pushCells_keeps _ _ _ _ (Heap.get?_push_of_some _ e)
  show codeAny _ _ (.compStart (dcE kx vx tg iter tg1 iter1 scope pos) 0 (.ref it) (.ref D) (compEnvC scope (cellsFrom (s3.heap.objs.size + 1) scope.names (cloFrom X.env.cells scope.names [])) s3.heap.objs.size X.env)) (compPost (model X.prog X.w) X.A X.xe none (EP X pins σ Q) (.ref D) s3.heap.objs.size) _
  have loop := dc2_block (X := X.blk s3 (upd H2 D (.dK [])) scope (compEnvC scope (cellsFrom (s3.heap.objs.size + 1) scope.names (cloFrom X.env.cells scope.names [])) s3.heap.objs.size X.env) fp) (pins := []) (scope := scope) (pos := pos) (kx := kx) (vx := vx) (iter := iter) (iter1 := iter1) (R := compPost (model X.prog X.w) X.A X.xe none (EP X pins σ Q) (.ref D) s3.heap.objs.size)
    T hc rfl hv (hg _ _ _ _ _) (hi1 _ _ _ _ _) (hg1 _ _ _ _ _) (hk _ _ _ _ _) (he _ _ _ _ _) (hs1 _)
    (fun H' s' I' no b hb => ⟨no b hb, (I'.ok.exf b hb).1, I'.ok.exfs b hb, .inl hb, fun x c e => (I'.ok.exf b hb).2 x c e, fun p hp => absurd (show p ∈ ([] : List (Addr × Obj)) ++ [] from hp) List.not_mem_nil⟩)
    W _ turns (fun H' s' I' qe => by
      have C := fun b hb => (f3 b hb).1
      have J' : L2.Inv X pins σ H' s' := I3.call' (ch := fp) I'.os I'.base I'.hok I'.bare fun b hb => ⟨(C b hb).2.2.2.1, (C b hb).2.1, (C b hb).2.2.2.2.1, (C b hb).2.2.2.2.2⟩
      have no : H' s3.heap.objs.size = none := I'.free
      obtain ⟨m, ns, _⟩ := I'.loc
      obtain ⟨y0, y1, y2, y3, y4, y5⟩ := I3.fpOk (Nat.le_refl _) no
      exact ⟨m, ns, fun h2 sb => ⟨.ref D, H', J'.turned (t' := s'.toks) (fun b o hb e => (sb.2 b hb).trans e) y0 y1 y3 y4 y5, rfl, qe⟩⟩) I4 st4 (fun b hb => (f3 b hb).1.1) w0
  exact dc_start0 loop (T.self X.A 0 _ _ _ st4 loop)
end
end Kp


namespace Kp
open PySem PySem.Spec PyProof.Rows L2
section
variable {X : Cx} {w0 : Wl} {ss : SS} {st : Store} {pos : Pos}
/-- {k: n for tg in iter for tg1 in iter1}: a new dict of numbers by texts -/
theorem mn_dc2 {tg tg1 kx vx iter iter1 : Expr} {scope : Scope} {own : List (Str × Nat)} {vs1 : List Nat} {g g1 : TG} {T T1 : PyData → SS → (SS → Prop) → Prop} {mF : List (Str × Int)} {R : List AV → Prop} (hc : X.calm = true) (hN : X.N.Nodup) (ok : BlkOk X.N X.env.scope scope own) (hv : ∀ i ∈ vs1, i ∈ own.map (·.2))
    (hT : TgOk X.K (w0.at st) g T (own.map (·.2))) (hT1 : TgOk X.K (w0.at st) g1 T1 vs1) (hg : InBlk X scope fun Y => PG Y tg g) (hg1 : InBlk X scope fun Y => PG Y tg1 g1)
    (h : KI X (w0.at st) tg iter ss fun ds => ∃ P : Nat → List (Str × Int) → Prop, P 0 [] ∧
      (∀ i d m, ds[i]? = some d → P i m → T d (wipeS ss (own.map (·.2))) fun ss' => nbS ss' = true ∧ BI X (w0.at st) scope tg1 iter1 ss' fun ds1 => ∃ P1 : Nat → List (Str × Int) → Prop, P1 0 m ∧ (∀ j e m', ds1[j]? = some e → P1 j m' → m'.length ≤ 50000 ∧ T1 e (wipeS ss' vs1) fun ss2 => BE X (w0.at st) scope kx ss2 fun x => ∃ k : Str, x = .dat (.str k) ∧ BE X (w0.at st) scope vx ss2 fun y => ∃ n : Int, y = .dat (.int n) ∧ P1 (j + 1) (regPut m' k n)) ∧ ∀ m', P1 ds1.length m' → P (i + 1) m') ∧ ∀ m, P ds.length m → m = mF ∧ R [])
    (hs : ∀ x, foldedSetIterable iter X.env x = pure x := by intro _; rfl) (hs1 : ∀ env x, foldedSetIterable iter1 env x = pure x := by intro _ _; rfl) : MNw X w0 (.dct mF) (dcE kx vx tg iter tg1 iter1 scope pos) st ss R := by
  refine PE.imp (pe_dc2 (wi1 := anBI X (w0.at st) scope tg1 iter1) (tk := anBE X (w0.at st) scope kx) (tv := anBE X (w0.at st) scope vx) hc hN h ok hv hg (fun s H C cl fp => ⟨fun pins s' σ H' Q I ⟨_, _, hh, q⟩ => (hh s H C cl fp).run pins s' σ H' Q I q⟩) hg1 (fun s H C cl fp => ⟨fun pins s' σ H' Q I ⟨_, _, hh, q⟩ => (hh s H C cl fp).run pins s' σ H' Q I q⟩) (fun s H C cl fp => ⟨fun pins s' σ H' Q I ⟨_, _, hh, q⟩ => (hh s H C cl fp).run pins s' σ H' Q I q⟩) hs hs1) fun σ H Q hq => ?_
  obtain ⟨w, ew, hsl, q⟩ := hq
  refine ⟨w, ew, hsl, fun J ds w1 l1 walk hk D hD => ?_⟩
  obtain ⟨P, p0, pt, pe⟩ := hk
  have hsl1 := hsl.mono l1
  have hgD : w1.g D = none := w1.gfree hD
  have hwD : w.h D = none := exFree l1.h hD
  let Ac := fun (w' : Wl) (m : List (Str × Int)) => Le w1 w' ∧ w'.h D = some (.dK (regK m)) ∧ w'.g D = none
  let Iv := fun (i : Nat) (H' : Hp) => ∃ (w' : Wl) (m : List (Str × Int)), w'.h = H' ∧ Ac w' m ∧ P i m
  have acMono : ∀ {w' w2 : Wl} {m : List (Str × Int)}, Le w' w2 → Ac w' m → Ac w2 m := fun {w' w2 m} l ⟨a, b, c⟩ => ⟨a.trans l, l.h _ _ b, l.hid D (by rw [b]; simp) c⟩
  refine ⟨fun i m H' => m = ds.length - i ∧ i ≤ ds.length ∧ Iv i H', ⟨ds.length, by simp, Nat.zero_le _, w1.own D (.dK []) hgD, [], rfl, ⟨Le.own hD, upd_same, hgD⟩, p0⟩, ?_⟩
  rintro i m H' ⟨rfl, hi, w', es, rfl, hac, hp⟩
  by_cases hlt : i < ds.length
  · refine .inr ?_
    have hget : ds[i]? = some ds[i] := by simp [hlt]
    obtain ⟨hgo, hy⟩ := (walk w' hac.1.g i).1 _ hget
    refine ⟨hgo, Iv (i + 1), fun H2 iv => ⟨ds.length - (i + 1), by omega, rfl, hlt, iv⟩, fun x H2 y => ?_⟩
    obtain ⟨w2, rfl, l2, hx⟩ := hy x H2 y
    have le2 := hac.1.trans l2
    refine hT.go x ds[i] w2 _ _ _ _ hx ((hsl1.mono le2).wipe _) (pt i _ es hget hp) fun σ2 ss2 hs2 hw2 k2 => ⟨by
      rw [hw2]
      exact lcK.wipe_idem _ _, ?_⟩
    obtain ⟨nb2, k2⟩ := k2
    refine ⟨ss2, _, k2, w2, rfl, hs2, fun J1 ds1 w3 l3 walk1 hk1 => ?_⟩
    obtain ⟨P1, q0, qt, qe⟩ := hk1
    let Iv1 := fun (j : Nat) (H' : Hp) => ∃ (w' : Wl) (m : List (Str × Int)), w'.h = H' ∧ Ac w' m ∧ Ex w3.g w'.g ∧ P1 j m
    refine ⟨fun j m H' => m = ds1.length - j ∧ j ≤ ds1.length ∧ Iv1 j H', ⟨ds1.length, by simp, Nat.zero_le _, w3, es, rfl, acMono l3 (acMono l2 hac), Ex.refl _, q0⟩, ?_⟩
    rintro j m H' ⟨rfl, hj, w4, m4, rfl, hac4, e4, hp4⟩
    by_cases hlt1 : j < ds1.length
    · refine .inr ?_
      have hget1 : ds1[j]? = some ds1[j] := by simp [hlt1]
      obtain ⟨hgo1, hy1⟩ := (walk1 w4 e4 j).1 _ hget1
      refine ⟨hgo1, Iv1 (j + 1), fun H2 iv => ⟨ds1.length - (j + 1), by omega, rfl, hlt1, iv⟩, fun x1 H2 y1 => ?_⟩
      obtain ⟨w5, rfl, l5, hx1⟩ := hy1 x1 H2 y1
      have hac5 := acMono l5 hac4
      have hs5 : Sl X.K (w0.at st) w5 σ2 ss2 := Sl.backM (st' := st) (st2 := st) nb2 hs2 (hsl1.mono hac5.1) ((l3.g.trans e4).trans l5.g)
      obtain ⟨hz5, qt5⟩ := qt j _ m4 hget1 hp4
      refine hT1.go x1 ds1[j] w5 _ _ _ _ hx1 (hs5.wipe _) qt5 fun σ3 ss3 hs3 hw3 k3 => ⟨by
        rw [hw3]
        exact lcK.wipe_idem _ _, ?_⟩
      refine ⟨ss3, _, k3, w5, rfl, hs3, fun v a w6 l6 hv6 ⟨k, ea, hb⟩ => ?_⟩
      subst ea
      cases hv6
      refine ⟨ss3, _, hb, w6, rfl, hs3.mono l6, fun v2 b w7 l7 hv7 ⟨n, eb, hP⟩ => ?_⟩
      subst eb
      cases hv7
      obtain ⟨le7, b1, b2⟩ := acMono l7 (acMono l6 hac5)
      have hlen : (regK m4).length < sizeLine := by
        unfold regK
        rw [List.length_map]
        exact Nat.lt_of_le_of_lt hz5 (by decide)
      refine ⟨regK m4, .inr k, rfl, b1, hlen, w7.own D (.dK (regK (regPut m4 k n))) b2, regPut m4 k n, by rw [putK_reg]; rfl, ⟨⟨le7.g, fun b o eo => ?_, fun b c1 c2 => le7.hid b c1 c2⟩, upd_same, b2⟩, ((e4.trans l5.g).trans l6.g).trans l7.g, hP⟩
      show upd w7.h D _ b = some o
      rw [upd_ne (ne_of_none eo hD)]
      exact le7.h b o eo
    · have e : j = ds1.length := by omega
      subst e
      exact .inl ⟨(walk1 w4 e4 ds1.length).2 (Nat.le_refl _), w4, m4, rfl, hac4, qe m4 hp4⟩
  · have e : i = ds.length := by omega
    subst e
    obtain ⟨le, h1, h2⟩ := hac
    obtain ⟨em, hR⟩ := pe es hp
    subst em
    exact .inl ⟨(walk w' le.g ds.length).2 (Nat.le_refl _), q D [] [] w' (l1.trans le) hwD h1 h2 .nil rfl hR⟩
end
end Kp


namespace Kp
open PySem PySem.Spec PyProof.Rows L2
/-! ### x += n, and new dicts that are leant on at once -/
section
variable {X : Cx} {w0 : Wl} {ss : SS} {st : Store} {pos : Pos}
theorem ks_aug (i : Nat) {x : Str} {e : Expr} {p' : Pos} {N : AN} {n : Int} (hN : X.N.Nodup) (hi : X.N[i]? = some x) (hx : Loc X.env.scope x) (hn : ss[i]? = some (some (.dat (.int n)))) (h : KE X w0 e ss fun a => onInt a fun j => N.nx (ss.set i (some (.dat (.int (n + j))))))
    (hf : X.fn x = true ∨ X.env.scope.names.lookup x = some .local := by first | exact .inl rfl | exact .inr rfl | assumption) : KS X w0 (.AugAssign (.Name x p') .Add e pos) ss N :=
  PS.imp (ps_aug hN hi hx h ip_add hf) fun D σ H ⟨w, ew, hs, d⟩ => by
    obtain ⟨v, h1, h2⟩ := hs.at_ i _ hn
    cases h2
    refine ⟨_, h1, w, ew, hs, fun u a w1 l1 hu hk => ?_⟩
    obtain ⟨j, rfl, hk⟩ := hk.of
    cases hu
    exact ⟨n, j, rfl, rfl, d.nx _ _ w1 l1.g ((hs.mono l1).set (a := .dat (.int (n + j))) i rfl (.int _)) hk⟩
/-- a new dict of numbers, leant on at once -/
theorem k_ofDct {e : Expr} {m : List (Str × Int)} {R : AV → Prop} (h : MNw X w0 (.dct m) e st ss fun as => as = [] ∧ R (.reg m)) : KE X (w0.at st) e ss R :=
  PE.imp h fun σ H Q ⟨w, ew, hs, q⟩ => ⟨w, ew, hs, fun p vs as w1 l1 hn h1 h2 h3 hp hr => by
    obtain ⟨ea, hr⟩ := hr
    subst ea
    cases h3
    have h1 : w1.h p = some (.dK (regK m)) := h1
    have sub : Ex (upd w1.g p (.dK (regK m))) w1.h := fun a u e => by
      by_cases z : a = p
      · subst z
        rw [upd_same] at e
        cases e
        exact h1
      · rw [upd_ne z] at e
        exact w1.sub a u e
    have eg : Ex w1.g (upd w1.g p (.dK (regK m))) := Ex.new h2
    refine q (.ref p) (.reg m) ⟨upd w1.g p (.dK (regK m)), w1.h, sub, w1.st⟩ ⟨l1.g.trans eg, l1.h, fun b b1 b2 => ?_⟩ ⟨p, rfl, upd_same⟩ hr
    have z : b ≠ p := fun z => b1 (by rw [z]; exact hn)
    show upd w1.g p (.dK (regK m)) b = none
    rw [upd_ne z]
    exact l1.hid b b1 b2⟩
/-- not in a sequence -/
abbrev ninS (x y : AV) (R : Bool → Prop) : Prop := match x, y with
  | .dat d, .dat (.list ds) => ∃ v vs, flatD d = some v ∧ flatDs ds = some vs ∧ R (!inV v vs)
  | .dat d, .dat (.tuple ds) => ∃ v vs, flatD d = some v ∧ flatDs ds = some vs ∧ R (!inV v vs)
  | _, _ => False
theorem dc_nin : DCmp X .NotIn ninS := ⟨_, op_notIn_seq, fun x y R hy vx vy w Q ax ay q => by
  unfold ninS at hy
  split at hy
  · obtain ⟨v, vs, e1, e2, hr⟩ := hy
    cases ay with
    | lst h1 d1 =>
      obtain ⟨rfl, hf⟩ := flatDs.dd e2 d1
      obtain rfl := flatD.dd e1 ax
      exact ⟨_, _, rfl, .inl (.inl (.inl (w.sub _ _ h1))), flatD.flat e1, hf, go q (.bl _) hr⟩
  · obtain ⟨v, vs, e1, e2, hr⟩ := hy
    cases ay with
    | tup h1 d1 =>
      obtain ⟨rfl, hf⟩ := flatDs.dd e2 d1
      obtain rfl := flatD.dd e1 ax
      exact ⟨_, _, rfl, .inr (w.t h1), flatD.flat e1, hf, go q (.bl _) hr⟩
  · exact hy.elim⟩
/-- x = [..], a new list of data in the store -/
theorem m_setLcN (j : Nat) {x : Str} {px spos : Pos} {tg elt iter : Expr} {ifs : List Expr} {scope : Scope} {own : List (Str × Nat)} {g : TG} {T : PyData → SS → (SS → Prop) → Prop} {N : MN} (hc : X.calm = true) (hN : X.N.Nodup) (hy : X.N[j]? = some x) (hyl : X.env.scope.names.lookup x = some .local) (ok : BlkOk X.N X.env.scope scope own) (hT : TgOk X.K (w0.at st) g T (own.map (·.2)))
    (hg : ∀ (s : Shared) (H : Hp) (C : Addr) (cl : List (Str × Addr)) (fp : List Addr), PG (X.blk s H scope (compEnvC scope cl C X.env) fp) tg g)
    (h : KI X (w0.at st) tg iter ss fun ds => ds.length ≤ 50000 ∧ ∃ P : Nat → List PyData → Prop, P 0 [] ∧ (∀ i d acc, ds[i]? = some d → P i acc → T d (wipeS ss (own.map (·.2))) fun ss' => testS X (w0.at st) scope ifs ss' (BE X (w0.at st) scope elt ss' fun e => onDat e fun e => P (i + 1) (acc ++ [e])) (P (i + 1) acc)) ∧ ∀ es, P ds.length es → ∀ p, Fresh st p → N.nx ((p, Ck.lst, es.map .dat) :: st) (ss.set j (some (.at_ p))))
    (hsw : swapsWith (.ListComp elt [⟨tg, iter, ifs, 0⟩] scope pos) (some (.Name x px)) spos.line X.env = pure true := by rfl) (hs : ∀ x, foldedSetIterable iter X.env x = pure x := by intro _; rfl) : MS X w0 (.Assign [.Name x px] (.ListComp elt [⟨tg, iter, ifs, 0⟩] scope pos) spos) st ss N :=
  PS.imp (ps_setLc hc hN hy hyl hsw h ok hg (pts_S (w0 := w0.at st)) (te := anBE X (w0.at st) scope elt) (fun s H C cl fp => ⟨fun pins s' σ H' Q I ⟨_, _, hh, q⟩ => (hh s H C cl fp).run pins s' σ H' Q I q⟩) hs) fun D σ H ⟨w, ew, hsl, d⟩ =>
    lcK (R := fun es => ∀ p, Fresh st p → N.nx ((p, Ck.lst, es.map .dat) :: st) (ss.set j (some (.at_ p)))) hT σ H _ ⟨w, ew, hsl, fun p vs ds w1 l1 hn h1 h2 hd hk => by
      obtain ⟨fr, hs2⟩ := Sl.new (b := .lst) (as := ds.map .dat) hsl l1 hn h1 h2 (AvA.ofDd hd) plain_dats
      exact d.nx _ _ _ w1 l1.g (hs2.set (a := .at_ p) j rfl rfl) (hk p fr)⟩
end
end Kp


namespace Kp
open PySem PySem.Spec PyProof.Rows L2
/-! ### lists of pairs: in, >=, sorted(set(..)); dicts of the top asked by any text -/
section
variable {X : Cx} {w0 : Wl} {ss : SS}
/-- in a list, whatever be in it -/
abbrev inLS (x y : AV) (R : Bool → Prop) : Prop := ∃ d ds, x = .dat d ∧ y = .dat (.list ds) ∧ noD d = true ∧ noDA ds = true ∧ SeqAt.shaped d = true ∧ SeqAt.shaped (.list ds) = true ∧ R (ds.any fun z => PyData.eqv z d)
theorem dc_inL (hu : X.A.units + 65 < cLine) : DCmp X .In inLS := ⟨_, op_inD hu, fun x y R hy vx vy w Q ax ay q => by
  obtain ⟨d, ds, rfl, rfl, n1, n2, s1, s2, hr⟩ := hy
  exact ⟨d, ds, Dd.dp (Dd.mono w.sub ax) n1, Dd.dp (d := .list ds) (Dd.mono w.sub ay) n2, s1, s2, go q (.bl _) hr⟩⟩
theorem dc_ninL (hu : X.A.units + 65 < cLine) : DCmp X .NotIn (fun x y R => inLS x y fun b => R (!b)) := ⟨_, op_notInD hu, fun x y R hy vx vy w Q ax ay q => by
  obtain ⟨d, ds, rfl, rfl, n1, n2, s1, s2, hr⟩ := hy
  exact ⟨d, ds, Dd.dp (Dd.mono w.sub ax) n1, Dd.dp (d := .list ds) (Dd.mono w.sub ay) n2, s1, s2, go q (.bl _) hr⟩⟩
/-- a pair of whole numbers -/
def prI (p : Int × Int) : PyData := .tuple [.int p.1, .int p.2]
/-- p stands ahead of q -/
def ltP (p q : Int × Int) : Bool := decide (p.1 < q.1) || (decide (p.1 = q.1) && decide (p.2 < q.2))
theorem dd_int {K : PySem.W.Frag} {H : Hp} {v : V} {i : Int} (h : Dd K H v (.int i)) : v = .int i := by
  cases h
  rfl
theorem dd_pr {K : PySem.W.Frag} {H : Hp} {v : V} {p : Int × Int} (h : Dd K H v (prI p)) : ∃ a, v = .ref a ∧ SqT K H a ([p.1, p.2].map V.int) := by
  unfold prI at h
  cases h with
  | tup h1 d1 =>
    cases d1 with
    | cons x y =>
      cases y with
      | cons x2 z =>
        cases z
        cases dd_int x
        cases dd_int x2
        exact ⟨_, rfl, h1⟩
theorem op_geP (hu : X.A.units < cLine) : OpR X (compareOp .GtE) (fun x y H Q => ∃ (a b : Addr) (p q : Int × Int), x = .ref a ∧ y = .ref b ∧ SqT X.K H a ([p.1, p.2].map V.int) ∧ SqT X.K H b ([q.1, q.2].map V.int) ∧ Q (.bl (!ltP p q)) H) := by
  intro pins s σ H x y v u Q I rx ry h
  obtain ⟨a, b, p, q, rfl, rfl, ha, hb, hq⟩ := h
  cases rx
  cases ry
  obtain ⟨as, r1, p1, _⟩ := I.tuple ha
  obtain ⟨bs, r2, p2, _⟩ := I.tuple hb
  have i1 : IntsAre as [p.1, p.2] := Vals.ints r1
  have i2 : IntsAre bs [q.1, q.2] := Vals.ints r2
  have n1 : as.toArray.size = 2 := by rw [List.size_toArray]; exact i1.length
  have n2 : bs.toArray.size = 2 := by rw [List.size_toArray]; exact i2.length
  have g1 : ∀ j (hj : j < as.toArray.size), ∃ t, as.toArray[j] = .int ([p.1, p.2].getD j 0) t := fun j hj => PyProof.Rows.IntsAre.int_at i1 _ _ (by simp at hj; simp [hj])
  have g2 : ∀ j (hj : j < bs.toArray.size), ∃ t, bs.toArray[j] = .int ([q.1, q.2].getD j 0) t := fun j hj => PyProof.Rows.IntsAre.int_at i2 _ _ (by simp at hj; simp [hj])
  have G := Ob.RcOp.tuples_ge (A := X.A) (s := s) (e := fun j => [p.1, p.2].getD j 0 == [q.1, q.2].getD j 0) (r := fun j => decide ([q.1, q.2].getD j 0 ≤ [p.1, p.2].getD j 0)) p1 p2 hu (fun j h1 h2 => by
    obtain ⟨t, e1⟩ := g1 j h1
    obtain ⟨t2, e2⟩ := g2 j h2
    rw [e1, e2]
    exact SeqAt.EqAt.int_int _ _ _ _) (fun j h1 h2 _ => by
    obtain ⟨t, e1⟩ := g1 j h1
    obtain ⟨t2, e2⟩ := g2 j h2
    rw [e1, e2]
    exact Ob.RcOp.ge_int _ _ _ _)
  rw [n1, n2] at G
  have eb : Ob.lexAt (fun j => [p.1, p.2].getD j 0 == [q.1, q.2].getD j 0) (fun j => decide ([q.1, q.2].getD j 0 ≤ [p.1, p.2].getD j 0)) (decide (2 ≥ 2)) 0 (min 2 2) = !ltP p q := by
    show (if (p.1 == q.1) = true then (if (p.2 == q.2) = true then (decide (2 ≥ 2)) else decide (q.2 ≤ p.2)) else decide (q.1 ≤ p.1)) = _
    unfold ltP
    by_cases c1 : p.1 = q.1
    · rw [if_pos (beq_iff_eq.mpr c1)]
      by_cases c2 : p.2 = q.2
      · rw [if_pos (beq_iff_eq.mpr c2), decide_eq_false (show ¬ p.1 < q.1 by omega), decide_eq_false (show ¬ p.2 < q.2 by omega)]
        simp
      · rw [if_neg (fun z => c2 (beq_iff_eq.mp z)), decide_eq_false (show ¬ p.1 < q.1 by omega), decide_eq_true c1]
        by_cases c3 : p.2 < q.2
        · rw [decide_eq_true c3, decide_eq_false (by omega)]; rfl
        · rw [decide_eq_false c3, decide_eq_true (by omega)]; rfl
    · rw [if_neg (fun z => c1 (beq_iff_eq.mp z)), decide_eq_false c1]
      by_cases c3 : p.1 < q.1
      · rw [decide_eq_true c3, decide_eq_false (by omega)]; rfl
      · rw [decide_eq_false c3, decide_eq_true (by omega)]; rfl
  rw [eb] at G
  exact G X.prog X.w X.xe (EP X pins σ Q) ⟨.bl _, H, I, rfl, hq⟩
abbrev geP (x y : AV) (R : Bool → Prop) : Prop := ∃ p q, x = .dat (prI p) ∧ y = .dat (prI q) ∧ R (!ltP p q)
theorem dc_geP (hu : X.A.units < cLine) : DCmp X .GtE geP := ⟨_, op_geP hu, fun x y R hy vx vy w Q ax ay q => by
  obtain ⟨p1, p2, rfl, rfl, hr⟩ := hy
  obtain ⟨a, rfl, ha⟩ := dd_pr ax
  obtain ⟨b, rfl, hb⟩ := dd_pr ay
  exact ⟨a, b, p1, p2, rfl, rfl, w.t ha, w.t hb, go q (.bl _) hr⟩⟩
theorem dda_prs {K : PySem.W.Frag} {H : Hp} : ∀ {ps : List (Int × Int)} {vs : List V}, DdA K H vs (ps.map prI) → ∃ ks : List (Addr × List Int), vs = ks.map (fun k => V.ref k.1) ∧ ks.map (·.2) = ps.map (fun p => [p.1, p.2]) ∧ ∀ k ∈ ks, SqT K H k.1 (k.2.map V.int)
  | [], _, .nil => ⟨[], rfl, rfl, fun _ h => nomatch h⟩
  | p :: ps, _, .cons x t => by
    obtain ⟨a, rfl, ha⟩ := dd_pr x
    obtain ⟨ks, rfl, e, h⟩ := dda_prs t
    refine ⟨(a, [p.1, p.2]) :: ks, rfl, by rw [List.map_cons, e]; rfl, fun k hk => ?_⟩
    rcases List.mem_cons.mp hk with z | z
    · rw [z]; exact ha
    · exact h k z
theorem prs_dda {K : PySem.W.Frag} {H : Hp} : ∀ {ks : List (Addr × (Int × Int))}, (∀ k ∈ ks, SqT K H k.1 ([k.2.1, k.2.2].map V.int)) → DdA K H (ks.map fun k => V.ref k.1) (ks.map fun k => prI k.2)
  | [], _ => .nil
  | k :: ks, h => .cons (.tup (h k List.mem_cons_self) (.cons (.int _) (.cons (.int _) .nil))) (prs_dda fun x hx => h x (List.mem_cons_of_mem _ hx))
def unP : List Int → Int × Int
  | [a, b] => (a, b)
  | _ => (0, 0)
/-- sorted(set(e)), pairs of whole numbers below 64 -/
theorem k_ssetP {e : Expr} {p1 p2 q1 q2 : Pos} {R : AV → Prop} (hc : X.calm = true) (hu : X.A.units + 64 < cLine) (hg1 : Gl X "sorted") (hm1 : X.mg "sorted" = none) (hg2 : Gl X "set") (hm2 : X.mg "set" = none)
    (h : KE X w0 e ss fun a => ∃ ps : List (Int × Int), a = .dat (.list (ps.map prI)) ∧ ps.length < 64 ∧ (∀ p ∈ ps, (0 ≤ p.1 ∧ p.1 < 64) ∧ 0 ≤ p.2 ∧ p.2 < 64) ∧ ∀ ks : List (Int × Int), ks.Pairwise (fun p q => ltP p q = true) → (∀ k, k ∈ ks ↔ k ∈ ps) → R (.dat (.list (ks.map prI))))
    (hs : starEach [e] X.env = (false, eval e X.env) :: starEach [] X.env := by rfl) (hs2 : starEach [.Call (.Name "set" p2) [e] [] q2] X.env = (false, eval (.Call (.Name "set" p2) [e] [] q2) X.env) :: starEach [] X.env := by rfl)
    (hp1 : (backTo q2 (starEach [] X.env)).any (·.1) = false := by rfl) (hp2 : (backTo q1 (starEach [] X.env)).any (·.1) = false := by rfl) :
    KE X w0 (.Call (.Name "sorted" p1) [.Call (.Name "set" p2) [e] [] q2] [] q1) ss R :=
  PE.imp (pe_callB (cr_sortedT hc) hg1 hm1 b_sorted (pa_cons (pe_callTy (cr_setOfT hc hu) hg2 hm2 b_set (pa_cons h pa_nil hs) (by decide) (by decide) hs hp1) pa_nil hs2) (by decide) (by decide) hs2 hp2) fun σ H Q ⟨w, ew, hsl, q⟩ => ⟨w, ew, hsl, fun v a w1 l1 hv hk => by
    obtain ⟨ps, rfl, h64, bd, hr⟩ := hk
    cases hv with
    | lst g1 d1 =>
      obtain ⟨ks, rfl, e2, hks⟩ := dda_prs d1
      have kl : ks.length = ps.length := by
        have := congrArg List.length e2
        rwa [List.length_map, List.length_map] at this
      have kp : ∀ k ∈ ks, ∃ p ∈ ps, k.2 = [p.1, p.2] := fun k hk => by
        have : k.2 ∈ ks.map (·.2) := List.mem_map.mpr ⟨k, hk, rfl⟩
        rw [e2] at this
        obtain ⟨p, hp, e⟩ := List.mem_map.mp this
        exact ⟨p, hp, e.symm⟩
      refine ⟨_, ks, rfl, .inl (.inl (w1.sub _ _ g1)), fun k hk => w1.t (hks k hk), by rw [kl]; exact h64, fun b L hb sub all => ?_⟩
      have hbg : w1.h b = none := hb
      refine ⟨b, L, 2, 64, rfl, upd_same, fun k hk => ?_, by decide, fun k hk => ?_, fun L' p perm nd hl pw hp => ?_⟩
      · exact ex_t (Ex.new hbg) (w1.t (hks k (sub k hk)))
      · obtain ⟨p, hp, e⟩ := kp k (sub k hk)
        rw [e]
        obtain ⟨⟨a1, a2⟩, a3, a4⟩ := bd p hp
        exact ⟨rfl, fun n hn => by
          rcases List.mem_cons.mp hn with z | z
          · rw [z]; exact ⟨a1, a2⟩
          · rw [List.mem_singleton.mp z]; exact ⟨a3, a4⟩⟩
      · let w2 := w1.own b (SetTO X.prog X.w b L) (w1.gfree hb)
        have hp2 : w2.h p = none := hp
        have inL : ∀ k ∈ L', ∃ p ∈ ps, k.2 = [p.1, p.2] := fun k hk => kp k (sub k (perm.mem_iff.mp hk))
        have eL : L'.map (fun k => V.ref k.1) = (L'.map fun k => (k.1, unP k.2)).map fun k => V.ref k.1 := by rw [List.map_map]; rfl
        have hd : DdA X.K w1.g (L'.map fun k => V.ref k.1) ((L'.map fun k => (k.1, unP k.2)).map fun k => prI k.2) := by
          rw [eL]
          refine prs_dda fun k hk => ?_
          obtain ⟨k0, hk0, rfl⟩ := List.mem_map.mp hk
          obtain ⟨p, hp, e⟩ := inL k0 hk0
          show SqT X.K w1.g k0.1 ([(unP k0.2).1, (unP k0.2).2].map V.int)
          have := hks k0 (sub k0 (perm.mem_iff.mp hk0))
          rw [e] at this ⊢
          exact this
        have em : (L'.map fun k => (k.1, unP k.2)).map (fun k => prI k.2) = (L'.map fun k => unP k.2).map prI := by rw [List.map_map, List.map_map]; rfl
        rw [em] at hd
        refine q (.ref p) (.dat (.list ((L'.map fun k => unP k.2).map prI))) (w2.put p (.lst (L'.map fun q => V.ref q.1))) (l1.trans ((Le.own hb).trans (Le.put hp2))) (.lst upd_same ?_) (hr _ ?_ fun k => ⟨fun hk => ?_, fun hk => ?_⟩)
        · exact hd.mono (Ex.new (w2.gfree hp2))
        · have nd2 := List.pairwise_map.mp (show (L'.map (·.2)).Pairwise (· ≠ ·) from nd)
          refine List.pairwise_map.mpr (List.Pairwise.imp_of_mem (fun {x y} hx hy hh => ?_) (pw.and nd2))
          obtain ⟨hle, hne⟩ := hh
          obtain ⟨p, hp, e⟩ := inL x hx
          obtain ⟨q, hq, e'⟩ := inL y hy
          rw [e, e'] at hle hne
          rw [e, e']
          show ltP p q = true
          obtain ⟨b1, b2⟩ := bd p hp
          obtain ⟨b3, b4⟩ := bd q hq
          unfold ltP
          rcases pair_lt hle hne b1 b2 b3 b4 with z | ⟨z1, z2⟩
          · rw [decide_eq_true z]; rfl
          · rw [decide_eq_true z1, decide_eq_true z2, Bool.and_true, Bool.or_true]
        · obtain ⟨x, hx, rfl⟩ := List.mem_map.mp hk
          obtain ⟨p, hp, e⟩ := inL x hx
          rw [e]
          exact hp
        · have : ([k.1, k.2] : List Int) ∈ ks.map (·.2) := by
            rw [e2]
            exact List.mem_map.mpr ⟨k, hk, rfl⟩
          obtain ⟨x, hx, e⟩ := List.mem_map.mp this
          obtain ⟨y, hy, e3⟩ := List.mem_map.mp (all x hx)
          refine List.mem_map.mpr ⟨y, perm.mem_iff.mpr hy, ?_⟩
          rw [e3, e]
          rfl⟩
/-- e in NAME, a dict of the top with texts for keys -/
theorem kt_inKd {x : Str} {p : Pos} {d : Addr} {es : Array DictEntry} {n : Nat} {e : Expr} {pos : Pos} {R : Bool → Prop} (D : KDict X.K X.w d es n) (hg : Gl X x) (hx : X.mg x = some (.ref d)) (B : Str → Bool) (hB : ∀ z, ∃ r, PySem.W.nsIn X.K d z = some r ∧ r.isSome = B z)
    (h : KE X w0 e ss fun a => ∃ z, a = .dat (.str z) ∧ R (B z)) (hdb : (x == ("__debug__" : Str)) = false := by decide) (hm : behindInMarks .In (.Name x p) = false := by first | exact nobehind _ (by decide) (by decide) | rfl) : KT X w0 (.Compare e [.In] [.Name x p] pos) ss R := by
  refine PT.imp (pt_cmpR (op_in_kd D) h (pe_glob hg hx (v := .ref d) rfl hdb) hm) fun σ H Q ⟨w, ew, hs, q⟩ => ⟨w, ew, hs, fun v a w1 l1 hv hk => ?_⟩
  obtain ⟨z, rfl, hr⟩ := hk
  cases hv
  obtain ⟨r, e1, e2⟩ := hB z
  exact ⟨z, r, rfl, rfl, e1, _, rfl, q _ w1 l1 (by rw [e2]; exact hr)⟩
/-- NAME[e], a dict of the top with texts for keys -/
theorem k_ixKd {x : Str} {p : Pos} {d : Addr} {es : Array DictEntry} {n : Nat} {e : Expr} {pos : Pos} {R : AV → Prop} (D : KDict X.K X.w d es n) (hg : Gl X x) (hx : X.mg x = some (.ref d)) (hp : PlainIx e) (V0 : Str → PyData) 
    (h : KE X w0 e ss fun a => ∃ z u v, a = .dat (.str z) ∧ PySem.W.nsIn X.K d z = some (some u) ∧ RelV v u ∧ (∀ H, Dd X.K H v (V0 z)) ∧ R (.dat (V0 z))) (hdb : (x == ("__debug__" : Str)) = false := by decide) : KE X w0 (.Subscript (.Name x p) e pos) ss R := by
  refine PE.imp (pe_ix ix_kdict (pe_glob hg hx (v := .ref d) rfl hdb) h hp) fun σ H Q ⟨w, ew, hs, q⟩ => ⟨w, ew, hs, fun v a w1 l1 hv hk => ?_⟩
  obtain ⟨z, u, v2, rfl, e1, r, hd, hr⟩ := hk
  cases hv
  exact ⟨d, z, v2, rfl, rfl, ⟨es, n, u, D.at_, D.lit, e1, r⟩, q v2 (.dat (V0 z)) w1 l1 (hd _) hr⟩
end
end Kp


namespace Kp
open PySem PySem.Spec PyProof.Rows L2
/-! ### dicts of data by texts -/
theorem mergeK_new : ∀ (more kvs : List (L2.Key × V)), ((kvs ++ more).map (·.1)).Nodup → mergeK kvs more = kvs ++ more
  | [], kvs, _ => by rw [List.append_nil]; rfl
  | (k, v) :: more, kvs, h => by
    have hn : valV kvs k = none := by
      unfold valV
      rw [Option.map_eq_none_iff, List.find?_eq_none]
      intro x hx e
      have e : x.1 = k := of_decide_eq_true e
      rw [List.map_append, List.nodup_append] at h
      exact h.2.2 x.1 (List.mem_map.mpr ⟨x, hx, rfl⟩) k (by rw [List.map_cons]; exact List.mem_cons_self) e
    show mergeK (putK kvs k v) more = _
    rw [putK_new v hn, mergeK_new more _ (by rw [List.append_assoc]; exact h), List.append_assoc]
    rfl
section
variable {X : Cx}
def tDictZip (K : PySem.W.Frag) (ta : TA) : TE := fun σ H Q => ta σ H fun vs H1 => ∃ (a b : Addr) (ks : List L2.Key) (xs : List V), vs = [.ref a, .ref b] ∧ SqL K H1 a (ks.map kV) ∧ SqL K H1 b xs ∧ ks.length = xs.length ∧ ∀ p, H1 p = none → Q (.ref p) (upd H1 p (.dK (mergeK [] (ks.zip xs))))
theorem keys_is {P : Program} {w : World} : ∀ {ks : List L2.Key} {us : List Value}, Vals (ks.map kV) us → ∀ (i : Nat) (u : Value), us[i]? = some u → ∃ k, ks[i]? = some k ∧ (mixKind P w).is k u = true
  | [], us, r, i, u, e => by
    rw [List.map_nil] at r
    cases r
    simp at e
  | k :: ks, us, r, i, u, e => by
    rw [List.map_cons] at r
    cases r with
    | cons h t =>
      cases i with
      | zero =>
        cases Option.some.inj e
        exact ⟨k, rfl, kV_is h⟩
      | succ i => exact keys_is t i u (by simpa using e)
theorem kv_zip : ∀ {ks : List L2.Key} {xs : List V} {us : List Value}, Vals xs us → KV (ks.zip xs) (ks.zip us)
  | [], xs, us, r => by
    rw [List.zip_nil_left, List.zip_nil_left]
    exact .nil
  | k :: ks, xs, us, r => by
    cases r with
    | nil =>
      rw [List.zip_nil_right, List.zip_nil_right]
      exact .nil
    | cons h t =>
      rw [List.zip_cons_cons, List.zip_cons_cons]
      exact .cons ⟨rfl, h⟩ (kv_zip t)
/-- dict(zip(a, b)) of two lists -/
theorem pe_dictZip {e e2 : Expr} {ta : TA} {p p2 pos pos2 : Pos} (hc : X.calm = true) (hg : Gl X "dict") (hm : X.mg "dict" = none) (hg2 : Gl X "zip") (hm2 : X.mg "zip" = none) (ha : PA X [e, e2] ta)
    (hs : starEach [e, e2] X.env = (false, eval e X.env) :: starEach [e2] X.env := by rfl) (hpl : (backTo pos2 (starEach [e2] X.env)).any (·.1) = false := by rfl)
    (hse : starEach [.Call (.Name "zip" p2) [e, e2] [] pos2] X.env = [(false, eval (.Call (.Name "zip" p2) [e, e2] [] pos2) X.env)] := by rfl) :
    PE X (.Call (.Name "dict" p) [.Call (.Name "zip" p2) [e, e2] [] pos2] [] pos) (tDictZip X.K ta) := by
  refine ⟨fun pins s σ H Q I h => ?_⟩
  refine Call_ (ld_blt I hg hm (u := .type "dict") (by first | rfl | decide +kernel) ?_)
  rw [hse]
  refine PySem.callWith_type1 (Call_ (ld_blt I hg2 hm2 PyProof.Rows.boot_zip (PyProof.Rows.callWith_type1 (thn (ha.run pos2 pins s σ H _ I h) fun us s1 ⟨vs, H1, I1, r1, q1⟩ => ?_) hs hpl)))
  obtain ⟨a, b, ks, xs, rfl, hqx, hqy, hl, q⟩ := q1
  cases r1 with
  | cons r rr =>
    cases rr with
    | cons r' rr =>
      cases rr
      cases r
      cases r'
      obtain ⟨its, rv, p1, hz1⟩ := I1.list hqx
      obtain ⟨its2, rv2, p2, hz2⟩ := I1.list hqy
      have l1 : its.length = ks.length := by
        have := rv.length
        rw [List.length_map] at this
        exact this.symm
      have l2 : its2.length = xs.length := rv2.length.symm
      refine call_zip_2 p1.isList p2.isList fun h' hz hTI hTO h1 h2 hsz hk => ?_
      have lt1 := p1.lt
      have lt2 := p2.lt
      have hz3 : ks.length ≤ sizeLine := by rw [← List.length_map (f := kV)]; exact hz1
      refine PySem.call_dict_pairs (knd := mixKind X.prog X.w) (kvs := ks.zip its2) (PySem.PairArg.zip (s1.heap.objs.size + 4) (s1.heap.objs.size + 2) (s1.heap.objs.size + 3) s1.heap.objs.size (s1.heap.objs.size + 1) a b (PySem.W.ktu_apart s1.heap.objs.size a b lt1 lt2) its.toArray its2.toArray) (I1.ok.hd hc)
        ⟨hz, hTI, ⟨_, _, hTO⟩, h1, h2, p1.isList.at fun o e => hk _ o e, p2.isList.at fun o e => hk _ o e⟩ ⟨?_, fun i key v hr => ?_⟩ ?_ fun h'' tk dof hk2 => ?_
      · rw [List.length_zip]
        simp
        omega
      · obtain ⟨hr1, hr2⟩ := hr
        obtain ⟨k, e1, e2⟩ := keys_is (P := X.prog) (w := X.w) rv i key (by simpa using hr1)
        exact ⟨k, List.getElem?_zip_eq_some.mpr ⟨e1, by simpa using hr2⟩, e2⟩
      · simp
        omega
      · have hm : (h'.objs.size == sysModules) = false := beq_eq_false_iff_ne.mpr (Nat.ne_of_gt (Nat.lt_of_lt_of_le I1.big (by rw [hsz]; exact Nat.le_add_right _ _)))
        have hlen : (mergeK [] (ks.zip xs)).length ≤ sizeLine := by
          refine Nat.le_trans (length_mergeK _ []) ?_
          rw [List.length_nil, Nat.zero_add, List.length_zip]
          exact Nat.le_trans (Nat.min_le_left _ _) hz3
        have old : ∀ c u, s1.heap.get? c = some u → h''.get? c = some u := fun c u e => hk2 c u (fun m => by
          have lt : c < s1.heap.objs.size := Heap.lt_size e
          simp only [List.mem_cons, List.not_mem_nil, or_false] at m
          rcases m with z | z | z | z <;> (rw [z] at lt; exact absurd lt (Nat.not_lt.mpr (by first | exact Nat.le_refl _ | exact Nat.le_add_right _ _)))) (hk c u e)
        exact ⟨.ref h'.objs.size, upd H1 h'.objs.size (.dK (mergeK [] (ks.zip xs))), inv_laid2 (s1 := { s1 with heap := h'', toks := tk }) I1 old rfl rfl (by omega) (show ObjOk X.prog X.w _ _ _ (.dK _) from ⟨hlen, hm, merged [] (ks.zip its2), KV.merge (kv_zip rv2) .nil, dof⟩), rfl, q _ (I1.hok.fresh (by omega))⟩
end
end Kp


namespace Kp
open PySem PySem.Spec PyProof.Rows L2
def nmGet (m : List (Str × PyData)) (k : Str) : Option PyData := (m.find? fun p => decide (p.1 = k)).map (·.2)
theorem nmdK_val {K : PySem.W.Frag} {H : Hp} (k : Str) : ∀ {m : List (Str × PyData)} {vs : List V} {d : PyData}, DdA K H vs (m.map (·.2)) → nmGet m k = some d → ∃ v, valV (nmdK m vs) (.inr k) = some v ∧ Dd K H v d
  | [], vs, d, _, e => nomatch e
  | (z, x) :: m, vs, d, h, e => by
    rw [List.map_cons] at h
    cases h with
    | cons h t =>
      rename_i v vs
      by_cases q : z = k
      · subst q
        have e : some x = some d := by rw [← e]; unfold nmGet; rw [List.find?_cons]; simp
        cases e
        exact ⟨v, valV_pos (p := ((Sum.inr z : L2.Key), v)) rfl, h⟩
      · have e : nmGet m k = some d := by rw [← e]; unfold nmGet; rw [List.find?_cons]; simp [q]
        obtain ⟨v', h1, h2⟩ := nmdK_val k t e
        refine ⟨v', ?_, h2⟩
        rw [← h1]
        exact valV_neg (p := ((Sum.inr z : L2.Key), v)) (fun e => q (Sum.inr.inj e))
theorem nmdK_keys (m : List (Str × PyData)) (vs : List V) (h : vs.length = m.length) : (nmdK m vs).map (·.1) = m.map fun p => (Sum.inr p.1 : L2.Key) := by
  unfold nmdK
  rw [List.map_fst_zip]
  rw [List.length_map]
  omega
theorem nmdK_vals (m : List (Str × PyData)) (vs : List V) (h : vs.length = m.length) : (nmdK m vs).map (·.2) = vs := by
  unfold nmdK
  rw [List.map_snd_zip]
  rw [List.length_map]
  omega
theorem nodup_inr {zs : List Str} (h : zs.Nodup) : (zs.map fun z => (Sum.inr z : L2.Key)).Nodup := List.Pairwise.map (R := fun a b => a ≠ b) (S := fun a b => a ≠ b) _ (fun a b ne e => ne (Sum.inr.inj e)) h
section
variable {X : Cx} {w0 : Wl} {ss : SS} {pos : Pos}
/-- d[k] -/
theorem k_nsub {o e : Expr} {R : AV → Prop} (hu : X.A.units + 1 < cLine) (hp : NoSl e) (h : KE X w0 o ss fun x => ∃ m, x = .nmd m ∧ KE X w0 e ss fun y => ∃ (k : Str) (d : PyData), y = .dat (.str k) ∧ nmGet m k = some d ∧ R (.dat d)) : KE X w0 (.Subscript o e pos) ss R :=
  PE.imp (pe_dget hu h (pe_an (w0 := w0) (ss := ss)) hp) fun σ H Q ⟨w, ew, hs, q⟩ => ⟨w, ew, hs, fun v x w1 l1 hv ⟨m, ex, he⟩ => by
    subst ex
    obtain ⟨a, us, rfl, ha, hd⟩ := hv
    refine ⟨_, he, w1, rfl, hs.mono l1, fun v2 y w2 l2 hv2 ⟨k, d, ey, eg, hr⟩ => ?_⟩
    subst ey
    cases hv2
    have h2 := w2.sub _ _ (l2.g _ _ ha)
    obtain ⟨v, e2, hvd⟩ := nmdK_val k (hd.mono l2.g) eg
    exact ⟨a, v, rfl, by rw [← e2]; exact DGet.k (k := .inr k) h2, q _ (.dat d) w2 (l1.trans l2) hvd hr⟩⟩
/-- dict(zip(a, b)), a a list of unlike texts -/
theorem k_dictZip {e e2 : Expr} {p p2 pos2 : Pos} {R : AV → Prop} (hc : X.calm = true) (hg : Gl X "dict") (hm : X.mg "dict" = none) (hg2 : Gl X "zip") (hm2 : X.mg "zip" = none)
    (h : KA X w0 [e, e2] ss fun as => ∃ (zs : List Str) (ds : List PyData), as = [.dat (.list (zs.map .str)), .dat (.list ds)] ∧ zs.Nodup ∧ zs.length = ds.length ∧ R (.nmd (zs.zip ds)))
    (hs : starEach [e, e2] X.env = (false, eval e X.env) :: starEach [e2] X.env := by rfl) (hpl : (backTo pos2 (starEach [e2] X.env)).any (·.1) = false := by rfl)
    (hse : starEach [.Call (.Name "zip" p2) [e, e2] [] pos2] X.env = [(false, eval (.Call (.Name "zip" p2) [e, e2] [] pos2) X.env)] := by rfl) :
    KE X w0 (.Call (.Name "dict" p) [.Call (.Name "zip" p2) [e, e2] [] pos2] [] pos) ss R :=
  PE.imp (pe_dictZip hc hg hm hg2 hm2 h hs hpl hse) fun σ H Q ⟨w, ew, hs, q⟩ => ⟨w, ew, hs, fun vs as w1 l1 hv ⟨zs, ds, ea, nd, hl, hr⟩ => by
    subst ea
    obtain ⟨v, u, rfl, hv1, hu⟩ := hv.two
    cases hv1 with
    | lst h1 d1 =>
      rename_i a xs
      cases hu with
      | lst h2 d2 =>
        rename_i b us
        have ex := d1.strs
        subst ex
        have lu : us.length = ds.length := d2.length
        have z1 : (zs.zip ds).map (·.1) = zs := List.map_fst_zip (by omega)
        have z2 : (zs.zip ds).map (·.2) = ds := List.map_snd_zip (by omega)
        have ek : (zs.map fun z => (Sum.inr z : L2.Key)).zip us = nmdK (zs.zip ds) us := by
          unfold nmdK
          rw [show (zs.zip ds).map (fun p => (Sum.inr p.1 : L2.Key)) = ((zs.zip ds).map (·.1)).map (fun z => (Sum.inr z : L2.Key)) by rw [List.map_map]; rfl, z1]
        refine ⟨a, b, zs.map fun z => (Sum.inr z : L2.Key), us, rfl, ?_, (.inl (.inl (w1.sub _ _ h2))), by rw [List.length_map]; omega, fun p hp => ?_⟩
        · rw [List.map_map]
          exact (.inl (.inl (w1.sub _ _ h1)))
        · rw [mergeK_new _ [] (by rw [List.nil_append, List.map_fst_zip (by rw [List.length_map]; omega)]; exact nodup_inr nd), List.nil_append, ek]
          exact q (.ref p) (.nmd (zs.zip ds)) (w1.put p (.dK (nmdK (zs.zip ds) us))) (l1.trans (Le.put hp)) ⟨p, us, rfl, upd_same, by rw [z2]; exact d2.mono (Le.put hp).g⟩ hr⟩
/-- zip of two lists, walked -/
theorem walk_zipL {K : PySem.W.Frag} {w : Wl} {p q : Addr} {vs us : List V} {ds es : List PyData} (h : SqL K w.g p vs) (hd : DdA K w.g vs ds) (h2 : SqL K w.g q us) (hd2 : DdA K w.g us es) (hl : ds.length = es.length) :
    WalkD K w (Itz K p q) ((ds.zip es).map fun x => .tuple [x.1, x.2]) := fun w' e i => by
  have h' : SqL K w'.h p vs := ex_l w'.sub (ex_l e h)
  have h2' : SqL K w'.h q us := ex_l w'.sub (ex_l e h2)
  refine ⟨fun d hi => ?_, fun hz => ⟨vs, us, h', h2', .inl ?_⟩⟩
  · rw [List.getElem?_map] at hi
    cases hz : (ds.zip es)[i]? with
    | none => rw [hz] at hi; cases hi
    | some z =>
      rw [hz] at hi
      cases hi
      obtain ⟨z1, z2⟩ := List.getElem?_zip_eq_some.mp hz
      obtain ⟨v, hv, q1⟩ := hd.get z1
      obtain ⟨u, hu, q2⟩ := hd2.get z2
      refine ⟨⟨vs, us, v, u, h', h2', hv, hu⟩, fun x H' y => ?_⟩
      obtain ⟨T, x1, y1, rfl, hT, rfl, k1, k2⟩ := y
      have e1 := k1 vs h'
      have e2 := k2 us h2'
      rw [hv] at e1
      rw [hu] at e2
      cases e1
      cases e2
      have le := Le.put (o := .tup [v, u]) hT
      exact ⟨w'.put T (.tup [v, u]), rfl, le, .tup (.inl (.inl upd_same)) (.cons (q1.mono (e.trans le.g)) (.cons (q2.mono (e.trans le.g)) .nil))⟩
  · rw [List.length_map, List.length_zip] at hz
    have := hd.length
    omega
theorem ki_zipL {a b : Expr} {p tpos : Pos} {elts : List Expr} {kk : Nat} {R : List PyData → Prop} (hg : Gl X "zip") (hm : X.mg "zip" = none) (h : KA X w0 [a, b] ss fun as => ∃ ds es : List PyData, as = [.dat (.list ds), .dat (.list es)] ∧ ds.length = es.length ∧ R ((ds.zip es).map fun x => .tuple [x.1, x.2]))
    (hs : starEach [a, b] X.env = (false, eval a X.env) :: starEach [b] X.env := by rfl) (hpl : (backTo pos (starEach [b] X.env)).any (·.1) = false := by rfl) : KI X w0 (.Tuple elts kk tpos) (.Call (.Name "zip" p) [a, b] [] pos) ss R :=
  PI.imp (RZ.pi_zipA hg hm h hs hpl) fun σ H RR ⟨w, ew, hs, q⟩ => ⟨w, ew, hs, fun vs as w1 l1 hv hk => by
    obtain ⟨ds, es, rfl, hl, k3⟩ := hk
    obtain ⟨v, u, rfl, hv1, hu⟩ := hv.two
    cases hv1 with
    | lst h1 d1 =>
      cases hu with
      | lst h2 d2 => exact ⟨_, _, _, _, rfl, .inl ⟨(.inl (.inl (w1.sub _ _ h1))), (.inl (.inl (w1.sub _ _ h2))), q _ _ w1 l1 (walk_zipL (.inl (.inl h1)) d1 (.inl (.inl h2)) d2 hl) k3⟩⟩⟩
/-- {k: d for tg in iter}: a new dict of data by unlike texts -/
theorem k_dcN {tg kx vx iter : Expr} {scope : Scope} {own : List (Str × Nat)} {g : TG} {T : PyData → SS → (SS → Prop) → Prop} {R : AV → Prop} (hc : X.calm = true) (hN : X.N.Nodup) (ok : BlkOk X.N X.env.scope scope own)
    (hT : TgOk X.K w0 g T (own.map (·.2))) (hg : InBlk X scope fun Y => PG Y tg g)
    (h : KI X w0 tg iter ss fun ds => ds.length ≤ 50000 ∧ ∃ P : Nat → List (Str × PyData) → Prop, P 0 [] ∧
      (∀ i d m, ds[i]? = some d → P i m → T d (wipeS ss (own.map (·.2))) fun ss' => BE X w0 scope kx ss' fun x => ∃ k : Str, x = .dat (.str k) ∧ k ∉ m.map (·.1) ∧ BE X w0 scope vx ss' fun y => onDat y fun e => P (i + 1) (m ++ [(k, e)])) ∧ ∀ m, P ds.length m → R (.nmd m))
    (hs : ∀ x, foldedSetIterable iter X.env x = pure x := by intro _; rfl) : KE X w0 (.DictComp kx vx [⟨tg, iter, [], 0⟩] scope pos) ss R := by
  refine PE.imp (pe_dc (tt := tYes) (tk := anBE X w0 scope kx) (tv := anBE X w0 scope vx) hc hN h ok hg (fun _ _ _ _ _ => pts_nil) (fun s H C cl fp => ⟨fun pins s1 σ H1 Q I ⟨ss1, R1, hb, q⟩ => (hb s H C cl fp).run pins s1 σ H1 Q I q⟩) (fun s H C cl fp => ⟨fun pins s1 σ H1 Q I ⟨ss1, R1, hb, q⟩ => (hb s H C cl fp).run pins s1 σ H1 Q I q⟩) hs) fun σ H Q hq => ?_
  obtain ⟨w, ew, hsl, q⟩ := hq
  refine ⟨w, ew, hsl, fun J ds w1 l1 walk hk D hD => ?_⟩
  obtain ⟨hz, P, p0, pt, pe⟩ := hk
  have hsl1 := hsl.mono l1
  have hgD : w1.g D = none := w1.gfree hD
  have hwD : w.h D = none := exFree l1.h hD
  let Ac := fun (w' : Wl) (m : List (Str × PyData)) (vs : List V) => Le w1 w' ∧ w'.h D = some (.dK (nmdK m vs)) ∧ w'.g D = none ∧ DdA X.K w'.g vs (m.map (·.2))
  let Iv := fun (i : Nat) (H' : Hp) => ∃ (w' : Wl) (m : List (Str × PyData)) (vs : List V), w'.h = H' ∧ Ac w' m vs ∧ P i m ∧ m.length ≤ i
  have acMono : ∀ {w' w2 : Wl} {m : List (Str × PyData)} {vs : List V}, Le w' w2 → Ac w' m vs → Ac w2 m vs := fun {w' w2 m vs} l ⟨a, b, c, d⟩ => ⟨a.trans l, l.h _ _ b, l.hid D (by rw [b]; simp) c, d.mono l.g⟩
  refine ⟨fun i m H' => m = ds.length - i ∧ i ≤ ds.length ∧ Iv i H', ⟨ds.length, by simp, Nat.zero_le _, w1.own D (.dK []) hgD, [], [], rfl, ⟨Le.own hD, upd_same, hgD, .nil⟩, p0, Nat.le_refl 0⟩, ?_⟩
  rintro i m H' ⟨rfl, hi, w', es, vs, rfl, hac, hp, hle⟩
  by_cases hlt : i < ds.length
  · refine .inr ?_
    have hget : ds[i]? = some ds[i] := by simp [hlt]
    obtain ⟨hgo, hy⟩ := (walk w' hac.1.g i).1 _ hget
    refine ⟨hgo, Iv (i + 1), fun H2 iv => ⟨ds.length - (i + 1), by omega, rfl, hlt, iv⟩, fun x H2 y => ?_⟩
    obtain ⟨w2, rfl, l2, hx⟩ := hy x H2 y
    have hac2 := acMono l2 hac
    refine hT.go x ds[i] w2 _ _ _ _ hx ((hsl1.mono hac2.1).wipe _) (pt i _ es hget hp) fun σ2 ss2 hs2 hw2 k2 => ⟨by
      rw [hw2]
      exact lcK.wipe_idem _ _, ?_⟩
    refine iteT (B := Iv (i + 1) w2.h) ?_
    refine ⟨ss2, _, k2, w2, rfl, hs2, fun v a w6 l6 hv6 ⟨k, ea, hk6, hb⟩ => ?_⟩
    subst ea
    cases hv6
    refine ⟨ss2, _, hb, w6, rfl, hs2.mono l6, fun v2 b w7 l7 hv7 hP => ?_⟩
    obtain ⟨e, rfl, hP⟩ := hP.of
    obtain ⟨le7, b1, b2, b3⟩ := acMono l7 (acMono l6 hac2)
    have lv : vs.length = es.length := by
      have := b3.length
      rw [List.length_map] at this
      exact this
    have hlen : (nmdK es vs).length < sizeLine := by
      unfold nmdK
      rw [List.length_zip, List.length_map]
      have : sizeLine = 16777216 := sizeLine_eq
      omega
    have hne : valV (nmdK es vs) (.inr k) = none := by
      unfold valV
      rw [Option.map_eq_none_iff, List.find?_eq_none]
      intro x hx e
      have e : x.1 = .inr k := of_decide_eq_true e
      have mm : x.1 ∈ (nmdK es vs).map (·.1) := List.mem_map.mpr ⟨x, hx, rfl⟩
      rw [nmdK_keys es vs lv, e] at mm
      obtain ⟨p, hp, ep⟩ := List.mem_map.mp mm
      exact hk6 (List.mem_map.mpr ⟨p, hp, Sum.inr.inj ep⟩)
    have eput : putK (nmdK es vs) (.inr k) v2 = nmdK (es ++ [(k, e)]) (vs ++ [v2]) := by
      rw [putK_new v2 hne]
      unfold nmdK
      rw [List.map_append, List.zip_append (by rw [List.length_map]; exact lv.symm)]
      rfl
    refine ⟨nmdK es vs, .inr k, rfl, b1, hlen, w7.own D (.dK (nmdK (es ++ [(k, e)]) (vs ++ [v2]))) b2, es ++ [(k, e)], vs ++ [v2], by rw [eput]; rfl, ⟨⟨le7.g, fun b o eo => ?_, fun b c1 c2 => le7.hid b c1 c2⟩, upd_same, b2, by rw [List.map_append]; exact b3.append (.cons hv7 .nil)⟩, hP, by rw [List.length_append]; exact Nat.succ_le_succ hle⟩
    show upd w7.h D _ b = some o
    rw [upd_ne (ne_of_none eo hD)]
    exact le7.h b o eo
  · have e : i = ds.length := by omega
    subst e
    obtain ⟨le, h1, h2, h3⟩ := hac
    have sub : Ex (upd w'.g D (.dK (nmdK es vs))) w'.h := fun a u e => by
      by_cases z : a = D
      · subst z
        rw [upd_same] at e
        cases e
        exact h1
      · rw [upd_ne z] at e
        exact w'.sub a u e
    have eg : Ex w'.g (upd w'.g D (.dK (nmdK es vs))) := Ex.new h2
    refine .inl ⟨(walk w' le.g ds.length).2 (Nat.le_refl _), q (.ref D) (.nmd es) ⟨upd w'.g D (.dK (nmdK es vs)), w'.h, sub, w'.st⟩ ⟨(l1.trans le).g.trans eg, (l1.trans le).h, fun b b1 b2 => ?_⟩ ⟨D, vs, rfl, upd_same, h3.mono eg⟩ (pe es hp)⟩
    have z : b ≠ D := fun z => b1 (by rw [z]; exact hwD)
    show upd w'.g D (.dK (nmdK es vs)) b = none
    rw [upd_ne z]
    exact (l1.trans le).hid b b1 b2
end
end Kp


namespace Kp
open PySem PySem.Spec PyProof.Rows L2
theorem kv_vals : ∀ {kvs : List (L2.Key × V)} {vs : List (L2.Key × Value)}, KV kvs vs → Vals (kvs.map (·.2)) (vs.map (·.2))
  | _, _, .nil => .nil
  | _, _, .cons h t => .cons h.2 (kv_vals t)
def tSortVals (td : TE) : TE := fun σ H Q => td σ H fun x H1 => ∃ (a : Addr) (kvs : List (L2.Key × V)) (ys : List Str), x = V.ref a ∧ H1 a = some (.dK kvs) ∧ kvs.map (·.2) = ys.map V.str ∧ ys.length < 64 ∧ ∀ (zs : List Str) (p : Addr), zs.Perm ys → sortedS zs = true → H1 p = none → Q (.ref p) (upd H1 p (.lst (zs.map V.str)))
section
variable {X : Cx} {o : Expr} {p pos apos mpos : Pos} {td : TE}
/-- sorted(o.values()), all texts -/
theorem pe_sortVals (hc : X.calm = true) (hg : Gl X "sorted") (hm : X.mg "sorted" = none) (hd : PE X o td) (hbase : attributeBase o "values" X.env (eval o X.env) = eval o X.env := by rfl) (hline : (apos.endLine == mpos.line) = true := by rfl)
    (hse : starEach [Expr.Call (.Attribute o "values" apos) [] [] mpos] X.env = [(false, eval (Expr.Call (.Attribute o "values" apos) [] [] mpos) X.env)] := by rfl) :
    PE X (.Call (.Name "sorted" p) [.Call (.Attribute o "values" apos) [] [] mpos] [] pos) (tSortVals td) := by
  refine ⟨fun pins s σ H Q I h => ?_⟩
  refine wpAny_Call_Name_kw (ld_blt I hg hm (u := .builtin "sorted") (by first | rfl | decide +kernel) ?_ (by first | decide +kernel | decide) (by first | decide +kernel | decide))
  rw [hse]
  refine PySem.callWith_builtin1 (wpAny_Call_method0_late hbase hline (thn (hd.run pins s σ H _ I h) fun v s1 ⟨x, H1, I1, r1, a, kvs, ys, ex, ha, hv, h64, q⟩ => ?_))
  subst ex
  obtain rfl : v = Value.ref a := r1
  obtain ⟨_, hsys, vs, rel, dof⟩ := dk_of I1.hok ha
  obtain ⟨ep, dat⟩ := dof.dictAt
  have dat' := dat
  obtain ⟨ob, es, ho, ex, hdat, hko, hpr, hnd⟩ := dat'
  refine ⟨"dict", "dict.values", F.plainAttrs_dict, F.slot_dict_values, F.type_dict_values, ⟨ob, ho, ex.1⟩, fun b e => ?_, Calls.callWith_builtin rfl (PySem.evalArgs_none ?_)⟩
  · cases e
    exact ⟨ob, ho, ex.2.1⟩
  refine call_meetsIn F.slot_dict_values ⟨ob, ho, ex.1⟩ F.entry_dict_values (F.args_dict_values_1 _) (meets_dict_values (mixKind X.prog X.w) a hsys) ⟨⟨vs, dof⟩, ?_⟩
  have k1 : ∀ b u, s1.heap.get? b = some u → (s1.heap.push { cls := .type "dict_values", data := .fields #[.ref a] }).get? b = some u := fun b u e => Heap.get?_push_of_some _ e
  have dat1 : (s1.heap.push { cls := .type "dict_values", data := .fields #[.ref a] }).DictAt (mixKind X.prog X.w) a vs ep := dat.keep k1
  have rv : Vals (ys.map V.str) (vs.map (·.2)) := hv ▸ kv_vals rel
  have hI : StrsAre (vs.map (·.2)) ys := rv.strs
  have hlv : vs.length = ys.length := by
    have := rv.length
    rw [List.length_map, List.length_map] at this
    exact this.symm
  refine Calls.call_function_entry kind_sorted plain_sorted entry_sorted (args_sorted1 _) ?_
  unfold Builtin.«sorted»
  refine wpAny_bind (m := checkCount "sorted" 1 1 _) (wpAny_pure ?_)
  refine wpAny_bind (PySem.W.kdu_collect (A := X.A.in1) (PySem.W.kdl_values (knd := mixKind X.prog X.w) (kvs := vs) (ep := ep) (r := s1.heap.objs.size) (d := a)) (I.ok.hd hc) ⟨⟨_, Heap.get?_push_size _ rfl, rfl, rfl⟩, dat1⟩ (by rw [hlv, sizeLine_eq]; omega) fun h' tk acc hk hacc => ?_)
  have ea : acc.toList = vs.map (·.2) := by
    refine List.ext_getElem? fun i => ?_
    by_cases lt : i < vs.length
    · have l2 : i < acc.toList.length := by rw [Array.length_toList, hacc.1]; exact lt
      obtain ⟨k, hk2⟩ := hacc.2 i acc.toList[i] (by rw [← Array.getElem?_toList]; exact List.getElem?_eq_getElem l2)
      rw [List.getElem?_eq_getElem l2, List.getElem?_map, hk2]
      rfl
    · rw [List.getElem?_eq_none (by rw [Array.length_toList, hacc.1]; omega), List.getElem?_eq_none (by rw [List.length_map]; omega)]
  rw [ea]
  refine wpAny_bind (wpAny_newList ?_ (by rw [List.length_map, hlv, sizeLine_eq]; omega))
  have gL : (h'.push (seqObj "list" (vs.map (·.2)).toArray 0)).get? h'.objs.size = some (seqObj "list" (vs.map (·.2)).toArray 0) := Heap.get?_push_size _ rfl
  have k2 : ∀ b u, s1.heap.get? b = some u → h'.get? b = some u := fun b u e => hk b u (k1 b u e)
  have hsz : s1.heap.objs.size ≤ h'.objs.size := by
    have lt : s1.heap.objs.size < h'.objs.size := Heap.lt_size (hk _ _ (Heap.get?_push_size _ rfl))
    exact Nat.le_of_lt lt
  have fin : ∀ (out : Array Value) (zs : List Str) (s2 : Shared), StrsAre out.toList zs → zs.Perm ys → sortedS zs = true → s2.heap = sortedHeap (h'.push (seqObj "list" (vs.map (·.2)).toArray 0)) h'.objs.size (vs.map (·.2)) out → s2.gens = s1.gens → s2.os = s1.os → EP X pins σ Q (.ref h'.objs.size) s2 := fun out zs s2 a1 a2 a3 e1 e2 e3 => by
    obtain ⟨c, hcc⟩ := sortedHeap_at (vs := vs.map (·.2)) (out := out) gL
    have hlen : (zs.map V.str).length ≤ sizeLine := by rw [List.length_map, a2.length_eq, sizeLine_eq]; omega
    refine ⟨.ref h'.objs.size, upd H1 h'.objs.size (.lst (zs.map V.str)), inv_laid2 I1 (fun b u e => ?_) e2 e3 hsz ⟨hlen, out.toList, c, vals_of_strs a1, by rw [e1]; exact hcc⟩, rfl, q zs _ a2 a3 (I1.hok.fresh hsz)⟩
    have lt := Heap.lt_size (k2 b u e)
    rw [e1, sortedHeap_old (Nat.ne_of_lt lt) (by rw [size_push']; exact Nat.lt_succ_of_lt lt)]
    exact Heap.get?_push_of_some _ (k2 b u e)
  refine wpAny_bind (wpAny_holding (wpAny_call_entry slot_list_sort ⟨_, gL, rfl⟩ entry_list_sort (list_sort_treeK strKind_oneLt gL hI.keysOf (fun v1 v2 rest e => keyKind_strs (by rw [← e]; exact hI)) (by rw [List.length_map, hlv]; exact h64) fun st hp hs => ?_) (args_list_sort _)))
  obtain ⟨zs, a1, a2, a3⟩ := sorted_out_str hI hp hs
  exact ⟨_, rfl, wpAny_pure ⟨_, rfl, fin _ zs _ a1 a2 a3 rfl rfl rfl⟩⟩
end
section
variable {X : Cx} {w0 : Wl} {ss : SS} {o : Expr} {p pos apos mpos : Pos}
theorem kn_sortVals {R : List PyData → Prop} (hc : X.calm = true) (hg : Gl X "sorted") (hm : X.mg "sorted" = none) (h : KE X w0 o ss fun x => ∃ (m : List (Str × PyData)) (ys : List Str), x = .nmd m ∧ m.map (·.2) = ys.map .str ∧ ys.length < 64 ∧ ∀ zs : List Str, zs.Perm ys → sortedS zs = true → R (zs.map .str))
    (hbase : attributeBase o "values" X.env (eval o X.env) = eval o X.env := by rfl) (hline : (apos.endLine == mpos.line) = true := by rfl)
    (hse : starEach [Expr.Call (.Attribute o "values" apos) [] [] mpos] X.env = [(false, eval (Expr.Call (.Attribute o "values" apos) [] [] mpos) X.env)] := by rfl) :
    KN X w0 (.Call (.Name "sorted" p) [.Call (.Attribute o "values" apos) [] [] mpos] [] pos) ss R :=
  PE.imp (pe_sortVals hc hg hm h hbase hline hse) fun σ H Q ⟨w, ew, hs, q⟩ => ⟨w, ew, hs, fun v x w1 l1 hv ⟨m, ys, ex, ev, h64, hr⟩ => by
    subst ex
    obtain ⟨a, us, rfl, ha, hd⟩ := hv
    rw [ev] at hd
    have eu := hd.strs
    subst eu
    have lm : (ys.map V.str).length = m.length := by
      have := congrArg List.length ev
      rw [List.length_map, List.length_map] at this
      rw [List.length_map]
      omega
    exact ⟨a, nmdK m (ys.map V.str), ys, rfl, w1.sub _ _ ha, nmdK_vals m _ lm, h64, fun zs p hp hs hn => q p (zs.map V.str) (zs.map .str) (w1.own p (.lst (zs.map V.str)) (w1.gfree hn)) (l1.trans (Le.own hn)) (exFree l1.h hn) upd_same (w1.gfree hn) (DdA.ofStrs zs) (hr zs hp hs)⟩⟩
theorem k_sortVals {R : AV → Prop} (hc : X.calm = true) (hg : Gl X "sorted") (hm : X.mg "sorted" = none) (h : KE X w0 o ss fun x => ∃ (m : List (Str × PyData)) (ys : List Str), x = .nmd m ∧ m.map (·.2) = ys.map .str ∧ ys.length < 64 ∧ ∀ zs : List Str, zs.Perm ys → sortedS zs = true → R (.dat (.list (zs.map .str))))
    (hbase : attributeBase o "values" X.env (eval o X.env) = eval o X.env := by rfl) (hline : (apos.endLine == mpos.line) = true := by rfl)
    (hse : starEach [Expr.Call (.Attribute o "values" apos) [] [] mpos] X.env = [(false, eval (Expr.Call (.Attribute o "values" apos) [] [] mpos) X.env)] := by rfl) :
    KE X w0 (.Call (.Name "sorted" p) [.Call (.Attribute o "values" apos) [] [] mpos] [] pos) ss R := k_ofN (kn_sortVals hc hg hm h hbase hline hse)
end
end Kp


namespace Kp
open PySem PySem.Spec PyProof.Rows L2
/-- a value of the top that is this data, texts and tuples alone -/
def ddIn (K : PySem.W.Frag) : Nat → Value → PyData → Bool
  | 0, u, d => match u, d with
    | .str x _, .str y => decide (x = y)
    | _, _ => false
  | n + 1, u, d => match u, d with
    | .str x _, .str y => decide (x = y)
    | .ref a, .tuple ds => match K.lookup a with
      | some ⟨.type c, _, .seq its _, _⟩ => decide (c = "tuple") && (decide (its.toList.length = ds.length) && (decide (its.size ≤ 1000) && (its.toList.zip ds).all fun p => ddIn K n p.1 p.2))
      | _ => false
    | _, _ => false
theorem all_dd {K : PySem.W.Frag} {f : Value × PyData → Bool} : ∀ {xs : List Value} {ys : List PyData}, (xs.zip ys).all f = true → xs.length = ys.length → (∀ x y, f (x, y) = true → ∃ v, RelV v x ∧ ∀ H, Dd K H v y) → ∃ vs, Vals vs xs ∧ ∀ H, DdA K H vs ys
  | [], [], _, _, _ => ⟨[], .nil, fun _ => .nil⟩
  | x :: xs, y :: ys, h, l, k => by
    rw [List.zip_cons_cons, List.all_cons, Bool.and_eq_true] at h
    obtain ⟨v, r, q⟩ := k x y h.1
    obtain ⟨vs, rs, qs⟩ := all_dd h.2 (Nat.succ.inj l) k
    exact ⟨v :: vs, .cons r rs, fun H => .cons (q H) (qs H)⟩
theorem ddIn_ok {K : PySem.W.Frag} : ∀ (n : Nat) (u : Value) (d : PyData), ddIn K n u d = true → ∃ v, RelV v u ∧ ∀ H, Dd K H v d
  | 0, u, d, h => by
    unfold ddIn at h
    split at h
    · rename_i x t y
      have e : x = y := of_decide_eq_true h
      subst e
      exact ⟨.str x, ⟨t, rfl⟩, fun H => .str x⟩
    · cases h
  | n + 1, u, d, h => by
    unfold ddIn at h
    split at h
    · rename_i x t y
      have e : x = y := of_decide_eq_true h
      subst e
      exact ⟨.str x, ⟨t, rfl⟩, fun H => .str x⟩
    · rename_i a ds
      split at h
      · rename_i c dd its m sl q
        simp only [Bool.and_eq_true, decide_eq_true_eq] at h
        obtain ⟨h1, h2, h3, h4⟩ := h
        subst h1
        obtain ⟨vs, r1, r2⟩ := all_dd h4 h2 fun x y z => ddIn_ok n x y z
        exact ⟨.ref a, rfl, fun H => .tup (.inr ⟨_, its, m, q, rfl, rfl, Nat.le_trans h3 (by decide), r1⟩) (r2 H)⟩
      · cases h
    · cases h
def entOk (K : PySem.W.Frag) : List DictEntry → List (Str × PyData) → Bool
  | [], [] => true
  | e :: es, p :: l => (match e.key with | .str y _ => decide (y = p.1) | _ => false) && (ddIn K 4 e.val p.2 && entOk K es l)
  | _, _ => false
def foundD (l : List (Str × PyData)) (z : Str) : PyData := ((l.find? fun p => p.1 == z).map (·.2)).getD .none
theorem ent_find {K : PySem.W.Frag} (z : Str) : ∀ {es : List DictEntry} {l : List (Str × PyData)}, entOk K es l = true →
    es.any (·.refKey) = false ∧ ((es.find? (·.key.isStr z) = none ∧ foundD l z = .none) ∨ ∃ e v, es.find? (·.key.isStr z) = some e ∧ RelV v e.val ∧ ∀ H, Dd K H v (foundD l z))
  | [], [], _ => ⟨rfl, .inl ⟨rfl, rfl⟩⟩
  | e :: es, p :: l, h => by
    have h : ((match e.key with | .str y _ => decide (y = p.1) | _ => false) && (ddIn K 4 e.val p.2 && entOk K es l)) = true := h
    simp only [Bool.and_eq_true] at h
    obtain ⟨h1, h2, h3⟩ := h
    split at h1
    · rename_i y t hk
      have e1 : y = p.1 := of_decide_eq_true h1
      obtain ⟨i1, i2⟩ := ent_find z h3
      refine ⟨by rw [List.any_cons, i1]; simp [DictEntry.refKey, hk], ?_⟩
      have hs : e.key.isStr z = (y == z) := by rw [hk]; rfl
      cases hz : (y == z) with
      | true =>
        obtain ⟨v, r, q⟩ := ddIn_ok 4 e.val p.2 h2
        refine .inr ⟨e, v, by rw [List.find?_cons, hs, hz], r, fun H => ?_⟩
        have e3 : foundD (p :: l) z = p.2 := by
          unfold foundD
          rw [List.find?_cons, ← e1, hz]
          rfl
        rw [e3]
        exact q H
      | false =>
        have e3 : foundD (p :: l) z = foundD l z := by
          unfold foundD
          rw [List.find?_cons, ← e1, hz]
        rw [List.find?_cons, hs, hz, e3]
        exact i2
    · cases h1
theorem ns_dd {K : PySem.W.Frag} {D : Addr} {c : Value} {dd : Option Addr} {es : Array DictEntry} {n : Nat} {sl : Array (Option Value)} {l : List (Str × PyData)} (h : K.lookup D = some ⟨c, dd, .dict es n, sl⟩) (ok : entOk K es.toList l = true) (z : Str) :
    ∃ o v, PySem.W.nsIn K D z = some o ∧ RelV v (o.getD .none) ∧ ∀ H, Dd K H v (foundD l z) := by
  obtain ⟨h1, h2⟩ := ent_find z ok
  unfold PySem.W.nsIn
  rw [h]
  rcases h2 with ⟨e1, e2⟩ | ⟨e, v, e1, e2, e3⟩
  · refine ⟨none, .non, ?_, rfl, fun H => by rw [e2]; exact .non⟩
    simp only [e1, h1]
    rfl
  · refine ⟨some e.val, v, ?_, e2, e3⟩
    simp only [e1]
def deedsL : List (Str × PyData) := (["read", "write", "change", "swap", "wait", "grab", "fence", "skip", "claim"] : List Str).map fun z => (z, kindsV z)
theorem found_kinds (z : Str) : foundD deedsL z = kindsV z := by
  have st : ∀ (k : Str) (l : List (Str × PyData)), foundD ((k, kindsV k) :: l) z = if z = k then kindsV z else foundD l z := fun k l => by
    unfold foundD
    rw [List.find?_cons]
    by_cases q : z = k
    · subst q
      rw [if_pos rfl]
      have : (z == z) = true := beq_self_eq_true z
      simp only [this]
      rfl
    · rw [if_neg q]
      have : (k == z) = false := beq_eq_false_iff_ne.mpr fun e => q e.symm
      simp only [this]
  show foundD (("read", kindsV "read") :: ("write", kindsV "write") :: ("change", kindsV "change") :: ("swap", kindsV "swap") :: ("wait", kindsV "wait") :: ("grab", kindsV "grab") :: ("fence", kindsV "fence") :: ("skip", kindsV "skip") :: ("claim", kindsV "claim") :: []) z = _
  rw [st, st, st, st, st, st, st, st, st]
  by_cases h1 : z = "read"
  · rw [if_pos h1]
  rw [if_neg h1]
  by_cases h2 : z = "write"
  · rw [if_pos h2]
  rw [if_neg h2]
  by_cases h3 : z = "change"
  · rw [if_pos h3]
  rw [if_neg h3]
  by_cases h4 : z = "swap"
  · rw [if_pos h4]
  rw [if_neg h4]
  by_cases h5 : z = "wait"
  · rw [if_pos h5]
  rw [if_neg h5]
  by_cases h6 : z = "grab"
  · rw [if_pos h6]
  rw [if_neg h6]
  by_cases h7 : z = "fence"
  · rw [if_pos h7]
  rw [if_neg h7]
  by_cases h8 : z = "skip"
  · rw [if_pos h8]
  rw [if_neg h8]
  by_cases h9 : z = "claim"
  · rw [if_pos h9]
  rw [if_neg h9]
  unfold kindsV kindsOf
  rw [if_neg h1, if_neg h2, if_neg h3, if_neg h4, if_neg h5, if_neg h6, if_neg h7, if_neg h8, if_neg h9]
  rfl
/-! ### what the top says -/
section
variable {mg : Str → Option Value} {K : PySem.W.Frag} {h : Heap}
theorem fn0_mk {x : Str} {st : Stmt} {ps : List Str} {f : Addr} {oc kV dc pm cd ct : Value} {od an : Option Addr} {sl : Array (Option Value)} (X : K.In h) (G : h.Ns mainGlobals mg) (a : PySem.W.nsIn K mainGlobals x = some (some (.ref f)))
    (l : K.lookup f = some ⟨oc, od, .func (PySem.W.fnOf x x (defArgs st) (defBody st) (defScope st) .none kV dc pm an cd ct), sl⟩) (c : PySem.W.codeIn K cd x = true) (k : PySem.W.keepIn K (.ref f) = true)
    (b : ∀ us : List Value, us.length = ps.length → bindArgs (PySem.W.fnOf x x (defArgs st) (defBody st) (defScope st) .none kV dc pm an cd ct) ⟨us, []⟩ = pure (ps.zip us)) : Fn0 K mg x st ps :=
  ⟨f, _, fun_mk l c k, PySem.W.mg_of X G a, Binds.all b⟩
theorem mt0_mk {m qual : Str} {st : Stmt} {ps : List Str} {C f : Addr} {oc kV dc pm cd ct : Value} {od an : Option Addr} {sl : Array (Option Value)} (a : PySem.W.findIn K (.ref C) m = some (some (.ref f))) (t : PySem.W.isFn K (.ref f) = true) (k : PySem.W.keepIn K (.ref f) = true)
    (l : K.lookup f = some ⟨oc, od, .func (PySem.W.fnOf m qual (defArgs st) (defBody st) (defScope st) .none kV dc pm an cd ct), sl⟩) (c : PySem.W.codeIn K cd qual = true)
    (b : ∀ us : List Value, us.length = ps.length → bindArgs (PySem.W.fnOf m qual (defArgs st) (defBody st) (defScope st) .none kV dc pm an cd ct) ⟨us, []⟩ = pure (ps.zip us)) : Mt0 K C m qual st ps :=
  ⟨f, _, ⟨a, t, k⟩, fun_mk l c k, Binds.all b⟩
theorem mk0_mk {x qual : Str} {st : Stmt} {ps : List Str} {C f : Addr} {oc kV dc pm cd ct : Value} {od an : Option Addr} {sl : Array (Option Value)} (X : K.In h) (G : h.Ns mainGlobals mg) (g : PySem.W.nsIn K mainGlobals x = some (some (.ref C))) (ma : PySem.W.makesIn K C = true) (a : PySem.W.findIn K (.ref C) "__init__" = some (some (.ref f))) (t : PySem.W.isFn K (.ref f) = true) (kc : PySem.W.keepIn K (.ref C) = true) (k : PySem.W.keepIn K (.ref f) = true)
    (l : K.lookup f = some ⟨oc, od, .func (PySem.W.fnOf "__init__" qual (defArgs st) (defBody st) (defScope st) .none kV dc pm an cd ct), sl⟩) (c : PySem.W.codeIn K cd qual = true)
    (b : ∀ us : List Value, us.length = ps.length → bindArgs (PySem.W.fnOf "__init__" qual (defArgs st) (defBody st) (defScope st) .none kV dc pm an cd ct) ⟨us, []⟩ = pure (ps.zip us)) : Mk0 K mg x C qual st ps :=
  ⟨f, _, ⟨ma, a, t, kc⟩, PySem.W.mg_of X G g, fun_mk l c k, Binds.all b⟩
theorem self_mk {C0 : Addr} : PySem.W.kitOne K (.ref C0) (.ref C0) = some true := by
  unfold PySem.W.kitOne
  rw [if_pos (beq_self_eq_true _)]
theorem int_mk {x : Str} {i j : Int} {t : Tok} (X : K.In h) (G : h.Ns mainGlobals mg) (a : PySem.W.nsIn K mainGlobals x = some (some (.int i t))) (e : i = j) : ∃ t, mg x = some (.int j t) := ⟨t, by rw [PySem.W.mg_of X G a, e]⟩
theorem str_mk {x : Str} {i j : Str} {t : Tok} (X : K.In h) (G : h.Ns mainGlobals mg) (a : PySem.W.nsIn K mainGlobals x = some (some (.str i t))) (e : i = j) : ∃ t, mg x = some (.str j t) := ⟨t, by rw [PySem.W.mg_of X G a, e]⟩
theorem er_mk {x qual : Str} {fs : List Str} {tl : List Value} {st : Stmt} {ps : List Str} {C fI : Addr} {B n1 n2 : String} {cd0 : ClassData} {oc kV dc pm cd ct : Value} {od an : Option Addr} {sl : Array (Option Value)} (X : K.In h) (G : h.Ns mainGlobals mg) (EF : ExcBaseFacts B n1 n2 tl) (ES : StoreFacts B tl "object.__setattr__" "object") (hn : noRef tl = true)
    (a1 : PySem.W.nsIn K mainGlobals x = some (some (.ref C))) (a2 : PySem.W.clsIn K C = some cd0) (a3 : cd0.name = x) (a4 : cd0.mro = .ref C :: tl) (a5 : PySem.W.excInitIn K C tl n1 = true) (a6 : PySem.W.excOver K C tl = true) (a7 : PySem.W.hasDictIn K C = true)
    (a8 : PySem.W.findIn K (.ref C) "__setattr__" = some (some (.builtin "object.__setattr__"))) (a9 : PySem.W.keepIn K (.ref C) = true) (a10 : PySem.W.findIn K (.ref C) "__init__" = some (some (.ref fI))) (a11 : PySem.W.typeIn K (.ref fI) = some (.type "function"))
    (a12 : K.lookup fI = some ⟨oc, od, .func (PySem.W.fnOf "__init__" qual (defArgs st) (defBody st) (defScope st) .none kV dc pm an cd ct), sl⟩) (a13 : PySem.W.codeIn K cd qual = true) (a14 : PySem.W.keepIn K (.ref fI) = true)
    (a15 : ∀ us : List Value, us.length = ps.length → bindArgs (PySem.W.fnOf "__init__" qual (defArgs st) (defBody st) (defScope st) .none kV dc pm an cd ct) ⟨us, []⟩ = pure (ps.zip us)) (a16 : PySem.W.typeIn K (.ref C) = some (.type "type"))
    (a17 : ∀ f ∈ fs, PySem.W.findIn K (.ref C) f = some none) (a18 : PySem.W.findIn K (.ref C) "__getattribute__" = some (some (.builtin "BaseException.__getattribute__"))) (a19 : PySem.W.findIn K (.ref C) "__getattr__" = some none) (a20 : PySem.W.subIn K (.ref C) (.type "BaseException") = some true)
    (a21 : PySem.W.findIn K (.ref C) "__class__" = some (some (.builtin "object.__class__"))) (a22 : PySem.W.specialIn K (.builtin "object.__class__") "__get__" = some (some (.builtin "getset_descriptor.__get__"))) (a23 : PySem.W.takesIn K (.builtin "object.__class__") = some true) (a24 : PySem.W.mroIn K C (.type "object") = some true) :
    ErK K mg x qual fs tl st ps C where
  ox := ⟨B, n1, n2, EF, ES, a5, a6, a7, a8, a9⟩
  nm := ⟨cd0, a2, a3, a4⟩
  tl := hn
  fI := ⟨fI, _, a10, a11, fun_mk (st := st) a12 a13 a14, Binds.all a15⟩
  m := PySem.W.mg_of X G a1
  ty := a16
  no := a17
  xf := ⟨a18, a19, a20, a7⟩
  ex := ⟨a18, a19, a20, a7, a21, a22, a23, a24⟩
end
end Kp


namespace Kp
open PySem PySem.Spec PyProof.Rows L2
/-! ### in and index of tuples with nested data; how many unlike texts -/
section
variable {X : Cx} {w0 : Wl} {ss : SS}
theorem op_inT (hu : X.A.units + 65 < cLine) : OpR X (compareOp .In) (fun x y H Q => ∃ d ds, Dp X.K H x d ∧ Dp X.K H y (.tuple ds) ∧ SeqAt.shaped d = true ∧ SeqAt.shaped (.tuple ds) = true ∧ Q (.bl (ds.any fun z => PyData.eqv z d)) H) := by
  intro pins s σ H x y v u Q I rx ry h
  obtain ⟨d, ds, hd, he, sd, se, q⟩ := h
  obtain ⟨as, r1⟩ := Dp.reads I d x v hd rx
  obtain ⟨bs, r2⟩ := Dp.reads I (.tuple ds) y u he ry
  exact SeqAt.in_tuple_reads r2 r1 (SeqAt.canLay_of_shaped se) (SeqAt.canLay_of_shaped sd) (room_in_shaped sd hu) ⟨.bl _, H, I, rfl, q⟩
theorem op_notInT (hu : X.A.units + 65 < cLine) : OpR X (compareOp .NotIn) (fun x y H Q => ∃ d ds, Dp X.K H x d ∧ Dp X.K H y (.tuple ds) ∧ SeqAt.shaped d = true ∧ SeqAt.shaped (.tuple ds) = true ∧ Q (.bl (!ds.any fun z => PyData.eqv z d)) H) := by
  intro pins s σ H x y v u Q I rx ry h
  obtain ⟨d, ds, hd, he, sd, se, q⟩ := h
  obtain ⟨as, r1⟩ := Dp.reads I d x v hd rx
  obtain ⟨bs, r2⟩ := Dp.reads I (.tuple ds) y u he ry
  exact SeqAt.notIn_tuple_reads r2 r1 (SeqAt.canLay_of_shaped se) (SeqAt.canLay_of_shaped sd) (room_in_shaped sd hu) ⟨.bl _, H, I, rfl, q⟩
abbrev inTS (x y : AV) (R : Bool → Prop) : Prop := ∃ d ds, x = .dat d ∧ y = .dat (.tuple ds) ∧ noD d = true ∧ noDA ds = true ∧ SeqAt.shaped d = true ∧ SeqAt.shaped (.tuple ds) = true ∧ R (ds.any fun z => PyData.eqv z d)
theorem dc_inT (hu : X.A.units + 65 < cLine) : DCmp X .In inTS := ⟨_, op_inT hu, fun x y R hy vx vy w Q ax ay q => by
  obtain ⟨d, ds, rfl, rfl, n1, n2, s1, s2, hr⟩ := hy
  exact ⟨d, ds, Dd.dp (Dd.mono w.sub ax) n1, Dd.dp (d := .tuple ds) (Dd.mono w.sub ay) n2, s1, s2, go q (.bl _) hr⟩⟩
theorem dc_ninT (hu : X.A.units + 65 < cLine) : DCmp X .NotIn (fun x y R => inTS x y fun b => R (!b)) := ⟨_, op_notInT hu, fun x y R hy vx vy w Q ax ay q => by
  obtain ⟨d, ds, rfl, rfl, n1, n2, s1, s2, hr⟩ := hy
  exact ⟨d, ds, Dd.dp (Dd.mono w.sub ax) n1, Dd.dp (d := .tuple ds) (Dd.mono w.sub ay) n2, s1, s2, go q (.bl _) hr⟩⟩
/-- t.index(x): the first place of an equal one -/
def rIndexT (K : PySem.W.Frag) : V → List V → Hp → VK → Prop := fun x xs H Q => ∃ (a : Addr) (y : V) (d : PyData) (ds : List PyData) (j : Nat) (z : PyData), x = V.ref a ∧ xs = [y] ∧ Dp K H (V.ref a) (.tuple ds) ∧ Dp K H y d ∧
  SeqAt.shaped (.tuple ds) = true ∧ SeqAt.shaped d = true ∧ ds[j]? = some z ∧ PyData.eqv z d = true ∧ (∀ (m : Nat) (z' : PyData), m < j → ds[m]? = some z' → PyData.eqv z' d = false) ∧ Q (.int (j : Nat)) H
theorem mt_indexT (hu : X.A.units + 65 < cLine) : MtR X "tuple.index" (rIndexT X.K) := by
  intro pins s σ H x xs v us Q I rx rxs h
  obtain ⟨a, y, d, ds, j, z, rfl, rfl, hl, hy, sl, sd, hz, hzj, hno, q⟩ := h
  cases rx
  cases rxs with
  | cons ry rt =>
    rename_i uy ut
    cases rt
    obtain ⟨bs, r1⟩ := Dp.reads I d y uy hy ry
    have hxs : PyData.canLayAll0 ds = true := SeqAt.canLay_of_shaped sl
    have hroom : X.A.units + 1 + min (PyData.depthAll ds) d.depth < cLine := room_in_shaped sd hu
    cases hl with
    | tup hs ha =>
      obtain ⟨its, rv, ⟨⟨cls, dd, data, sls⟩, ho, hc, n, hdt⟩, hlen⟩ := I.tuple hs
      simp only at hc hdt
      subst hc hdt
      obtain ⟨as, h4⟩ := Dp.readsAll I ds _ its ha rv
      have hn : its.length = ds.length := SeqAt.ReadsAll.length ds its as h4
      have hmap : its.map (SeqAt.readOf s.heap) = ds := SeqAt.readsAll_map ds its as hxs h4
      obtain ⟨hjd, _⟩ := List.getElem?_eq_some_iff.mp hz
      have hjl : j < its.length := by omega
      have hj : j < its.toArray.size := by simpa using hjl
      have at_ : ∀ (m : Nat) (hm : m < its.toArray.size) (z' : PyData), ds[m]? = some z' → SeqAt.readOf s.heap its.toArray[m] = z' := by
        intro m hm z' hz'
        have hml : m < its.length := by simpa using hm
        rw [← hmap, List.getElem?_map, List.getElem?_eq_getElem hml] at hz'
        have e1 : SeqAt.readOf s.heap its[m] = z' := Option.some.inj (show some (SeqAt.readOf s.heap its[m]) = some z' from hz')
        simpa using e1
      refine call_meets PySem.F.slot_tuple_index ⟨_, ho, rfl⟩ PySem.F.entry_tuple_index (PySem.F.args_tuple_index_2 _ _)
        (TI.tuple_indexAt a its.toArray n dd sls uy (fun u => PyData.eqv (SeqAt.readOf s.heap u) d) j hj ?_ ?_) ⟨ho, SeqAt.items_eqAt (vs := its.toArray) (show ReadsAll s.heap its.toArray.toList ds as from h4) r1 hxs (SeqAt.canLay_of_shaped sd) hroom, ?_⟩
      · show PyData.eqv (SeqAt.readOf s.heap its.toArray[j]) d = true
        rw [at_ j hj z hz]
        exact hzj
      · intro m hm hmj
        have hmd : m < ds.length := by omega
        have hz' : ds[m]? = some ds[m] := List.getElem?_eq_getElem hmd
        show PyData.eqv (SeqAt.readOf s.heap its.toArray[m]) d = false
        rw [at_ m hm _ hz']
        exact hno m _ hmj hz'
      · exact ⟨.int (j : Nat), H, I.tok _, ⟨_, rfl⟩, q⟩
/-- at p: a tuple of the top, this data -/
def WT (K : PySem.W.Frag) (p : Addr) (ds : List PyData) : Prop := (∃ o, K.lookup p = some o ∧ o.cls = .type "tuple" ∧ o.dict = none) ∧ ∀ H, Dd K H (.ref p) (.tuple ds)
/-- x not in t, t a tuple of the top -/
theorem dc_ninW (hu : X.A.units + 65 < cLine) : DCmp X .NotIn (fun x y R => ∃ d p ds, x = .dat d ∧ y = .at_ p ∧ WT X.K p ds ∧ noD d = true ∧ noDA ds = true ∧ SeqAt.shaped d = true ∧ SeqAt.shaped (.tuple ds) = true ∧ R (!ds.any fun z => PyData.eqv z d)) := ⟨_, op_notInT hu, fun x y R hy vx vy w Q ax ay q => by
  obtain ⟨d, p, ds, rfl, rfl, hw, n1, n2, s1, s2, hr⟩ := hy
  have ay : vy = .ref p := ay
  subst ay
  exact ⟨d, ds, Dd.dp (Dd.mono w.sub ax) n1, Dd.dp (d := .tuple ds) (hw.2 w.h) n2, s1, s2, go q (.bl _) hr⟩⟩
/-- t.index(x), t a tuple of the top -/
theorem k_indexW {o e : Expr} {apos cpos : Pos} {R : AV → Prop} (hu : X.A.units + 65 < cLine)
    (h : KE X w0 o ss fun x => ∃ p ds, x = .at_ p ∧ WT X.K p ds ∧ KE X w0 e ss fun y => ∃ d, y = .dat d ∧ noD (.tuple ds) = true ∧ noD d = true ∧ SeqAt.shaped (.tuple ds) = true ∧ SeqAt.shaped d = true ∧ ∃ (j : Nat) (z : PyData), ds[j]? = some z ∧ PyData.eqv z d = true ∧ (∀ (m : Nat) (z' : PyData), m < j → ds[m]? = some z' → PyData.eqv z' d = false) ∧ R (.dat (.int (j : Nat))))
    (hbase : attributeBase o "index" X.env (eval o X.env) = eval o X.env := by rfl)
    (hfew : ((backTo cpos (starEach [e] X.env)).all (fun x => !x.1) && (backToKw cpos (keywordEach [] X.env)).all (fun x => x.1.isSome) && decide (([e] : List Expr).length + ([] : List Keyword).length + (if ([] : List Keyword).isEmpty then 0 else 1) < 30)) = true := by rfl)
    (hline : (apos.endLine == cpos.line) = true := by rfl) (hs : starEach [e] X.env = (false, eval e X.env) :: starEach [] X.env := by rfl) (hplain : (backTo cpos (starEach [] X.env)).any (·.1) = false := by rfl) :
    KE X w0 (.Call (.Attribute o "index" apos) [e] [] cpos) ss R :=
  PE.imp (pe_bm PySem.F.plainAttrs_tuple PySem.F.slot_tuple_index PySem.F.type_tuple_index (mt_indexT hu) h (pa_cons (pe_an (w0 := w0) (ss := ss)) pa_nil hs) hbase hfew hline hs hplain) fun σ H Q ⟨w, ew, hsl, q⟩ => ⟨w, ew, hsl, fun v x w1 l1 hv hk => by
    obtain ⟨p, ds, rfl, hw, hk⟩ := hk
    have hv : v = .ref p := hv
    subst hv
    refine ⟨.inr (.inl ⟨rfl, hw.1⟩), _, hk, w1, rfl, hsl.mono l1, fun v2 y w2 l2 hv2 hy => ?_⟩
    obtain ⟨d, rfl, n1, n2, s1, s2, j, z, hz, e1, e2, hr⟩ := hy
    exact ⟨_, _, d, _, j, z, rfl, rfl, Dd.dp (hw.2 w2.h) n1, Dd.dp (Dd.mono w2.sub hv2) n2, s1, s2, hz, e1, e2, q (.int _) (.dat (.int _)) w2 (l1.trans l2) (.int _) hr⟩⟩
/-- NAME[e], a dict of the top with texts for keys; what stands there is an object of the top -/
theorem k_ixKdA {x : Str} {p : Pos} {d : Addr} {es : Array DictEntry} {n : Nat} {e : Expr} {pos : Pos} {R : AV → Prop} (D : KDict X.K X.w d es n) (hg : Gl X x) (hx : X.mg x = some (.ref d)) (hp : PlainIx e)
    (h : KE X w0 e ss fun a => ∃ z u, a = .dat (.str z) ∧ PySem.W.nsIn X.K d z = some (some (.ref u)) ∧ R (.at_ u)) (hdb : (x == ("__debug__" : Str)) = false := by decide) : KE X w0 (.Subscript (.Name x p) e pos) ss R := by
  refine PE.imp (pe_ix ix_kdict (pe_glob hg hx (v := .ref d) rfl hdb) h hp) fun σ H Q ⟨w, ew, hs, q⟩ => ⟨w, ew, hs, fun v a w1 l1 hv hk => ?_⟩
  obtain ⟨z, u, rfl, e1, hr⟩ := hk
  cases hv
  exact ⟨d, z, .ref u, rfl, rfl, ⟨es, n, .ref u, D.at_, D.lit, e1, rfl⟩, q (.ref u) (.at_ u) w1 l1 rfl hr⟩
/-- all values of a dict of the top are tuples of the top -/
def tupOk (K : PySem.W.Frag) (es : List DictEntry) : Bool := es.all fun e => match e.val with
  | .ref a => match K.lookup a with
    | some o => (match o.cls with | .type c => decide (c = "tuple") | _ => false) && o.dict.isNone
    | none => false
  | _ => false
theorem ns_wt {K : PySem.W.Frag} {D : Addr} {c : Value} {dd : Option Addr} {es : Array DictEntry} {n : Nat} {sl : Array (Option Value)} {l : List (Str × PyData)} {ds : List PyData} (h : K.lookup D = some ⟨c, dd, .dict es n, sl⟩) (ok : entOk K es.toList l = true) (ok2 : tupOk K es.toList = true) (z : Str) (hz : foundD l z = .tuple ds) :
    ∃ p, PySem.W.nsIn K D z = some (some (.ref p)) ∧ WT K p ds := by
  obtain ⟨h1, h2⟩ := ent_find z ok
  rcases h2 with ⟨e1, e2⟩ | ⟨e, v, e1, e2, e3⟩
  · rw [e2] at hz
    cases hz
  · have m := List.mem_of_find?_eq_some e1
    have q := List.all_eq_true.mp ok2 e m
    split at q
    · rename_i a ha
      split at q
      · rename_i o ho
        rw [Bool.and_eq_true] at q
        obtain ⟨q1, q2⟩ := q
        split at q1
        · rename_i cc hcc
          rw [ha] at e2
          have ev : v = .ref a := by
            cases v with
            | ref b => cases e2; rfl
            | _ => first | (obtain ⟨_, e2⟩ := e2; cases e2) | cases e2
          subst ev
          refine ⟨a, ?_, ⟨o, ho, by rw [hcc, of_decide_eq_true q1], Option.isNone_iff_eq_none.mp q2⟩, fun H => by rw [← hz]; exact e3 H⟩
          unfold PySem.W.nsIn
          rw [h]
          simp only [e1, ha]
        · cases q1
      · cases q
    · cases q
def rLenSetS (P : Program) (w : World) : List V → Hp → VK → Prop := fun vs H Q => ∃ (a : Addr) (M : Str → Bool) (n : Nat), vs = [.ref a] ∧ H a = some (SgH (skS P w) a M n) ∧ ∀ ks : List Str, ks.Nodup → (∀ k, k ∈ ks ↔ M k = true) → ks.length = n → Q (.int n) H
theorem cr_lenSetS : CallR X (.builtin "len") (rLenSetS X.prog X.w) := by
  intro pins s σ H vs us Q I r h
  obtain ⟨a, M, n, rfl, ha, q⟩ := h
  rw [Vals.ref1 r]
  obtain ⟨o, es, ep, tb, ho, S⟩ := sgH_get I ha
  refine call_len_set ho S.exact_ S.data S.fits (by have := S.room; have e : scanBound = 1024 ∨ True := .inr trivial; exact Int.lt_of_lt_of_le (Int.ofNat_lt.mpr this) (by decide)) ⟨.int n, H, I.tok _, ⟨_, by rw [S.size]⟩, q (es.toList.map (kyE (skS X.prog X.w))) S.nd (fun k => (S.mem k).symm) (by rw [List.length_map, Array.length_toList, S.size])⟩
/-- len(set(e)), texts -/
theorem k_lenSetS {e : Expr} {p1 p2 q1 q2 : Pos} {R : AV → Prop} (hc : X.calm = true) (hg1 : Gl X "len") (hm1 : X.mg "len" = none) (hg2 : Gl X "set") (hm2 : X.mg "set" = none)
    (h : KE X w0 e ss fun a => ∃ ns : List Str, a = .dat (.list (ns.map .str)) ∧ ns.length < 64 ∧ ∀ ks : List Str, ks.Nodup → (∀ k, k ∈ ks ↔ k ∈ ns) → R (.dat (.int ks.length)))
    (hs : starEach [e] X.env = (false, eval e X.env) :: starEach [] X.env := by rfl) (hs2 : starEach [.Call (.Name "set" p2) [e] [] q2] X.env = (false, eval (.Call (.Name "set" p2) [e] [] q2) X.env) :: starEach [] X.env := by rfl)
    (hp1 : (backTo q2 (starEach [] X.env)).any (·.1) = false := by rfl) (hp2 : (backTo q1 (starEach [] X.env)).any (·.1) = false := by rfl) :
    KE X w0 (.Call (.Name "len" p1) [.Call (.Name "set" p2) [e] [] q2] [] q1) ss R :=
  PE.imp (pe_callB cr_lenSetS hg1 hm1 b_len (pa_cons (pe_callTy (cr_setOfS hc) hg2 hm2 b_set (pa_cons h pa_nil hs) (by decide) (by decide) hs hp1) pa_nil hs2) (by decide) (by decide) hs2 hp2) fun σ H Q ⟨w, ew, hsl, q⟩ => ⟨w, ew, hsl, fun v a w1 l1 hv hk => by
    obtain ⟨ns, rfl, h64, hr⟩ := hk
    cases hv with
    | lst g1 d1 =>
      rw [d1.strs] at g1
      refine ⟨_, ns, rfl, .inl (.inl (w1.sub _ _ g1)), h64, fun b c hb hc2 => ⟨b, _, c, rfl, upd_same, fun ks nd mm hl => ?_⟩⟩
      subst hl
      exact q (.int _) (.dat (.int _)) (w1.own b (SgH (skS X.prog X.w) b (fun j => decide (j ∈ ns)) ks.length) (w1.gfree hb)) (l1.trans (Le.own hb)) (.int _) (hr ks nd fun k => by
        rw [mm k]
        exact decide_eq_true_iff)⟩
end
end Kp


namespace Kp
open PySem PySem.Spec PyProof.Rows L2
section
variable {X : Cx} {w0 : Wl} {ss : SS} {st : Store}
/-- list(range(n)), a new list -/
theorem kn_rng {e : Expr} {p1 p2 q1 q2 : Pos} {R : List PyData → Prop} (hc : X.calm = true) (hg : Gl X "list") (hm : X.mg "list" = none) (hg2 : Gl X "range") (hm2 : X.mg "range" = none) (h : KE X w0 e ss fun a => onInt a fun n => -100000 ≤ n ∧ n ≤ 100000 ∧ R (rangeD 0 n.toNat))
    (na : starEach [e] X.env = (false, eval e X.env) :: starEach [] X.env := by rfl) (na2 : starEach [.Call (.Name "range" p2) [e] [] q2] X.env = (false, eval (.Call (.Name "range" p2) [e] [] q2) X.env) :: starEach [] X.env := by rfl) :
    KN X w0 (.Call (.Name "list" p1) [.Call (.Name "range" p2) [e] [] q2] [] q1) ss R :=
  PE.imp (pe_listRg hc hg hm (prg_1 hg2 hm2 h na) na2) fun σ H Q ⟨w, ew, hs, q⟩ => ⟨w, ew, hs, fun v a w1 l1 hv hk => by
    obtain ⟨n, rfl, hz, hz2, hr⟩ := hk.of
    cases hv
    refine ⟨n, rfl, ⟨by omega, by omega, by omega, by omega, by omega⟩, fun p hp => ?_⟩
    have e1 : rgV 0 n = ((List.range n.toNat).map fun (i : Nat) => (0 : Int) + (i : Int)).map V.int := by
      unfold rgV
      rw [List.map_map, Int.sub_zero]
      rfl
    have e2 : rangeD 0 n.toNat = ((List.range n.toNat).map fun (i : Nat) => (0 : Int) + (i : Int)).map .int := by
      unfold rangeD
      rw [List.map_map]
      rfl
    refine q p (rgV 0 n) (rangeD 0 n.toNat) (w1.own p (.lst (rgV 0 n)) (w1.gfree hp)) (l1.trans (Le.own hp)) (exFree l1.h hp) upd_same (w1.gfree hp) ?_ hr
    rw [e1, e2]
    exact DdA.ofInts _⟩
abbrev sortedIS : List AV → (AV → Prop) → Prop
  | [.dat (.list ds)], R => ∃ xs : List Int, ds = xs.map .int ∧ xs.length < 64 ∧ ∀ ys : List Int, ys.Perm xs → ys.Pairwise (· ≤ ·) → R (.dat (.list (ys.map .int)))
  | _, _ => False
theorem dl_sortedI : DCl X (.builtin "sorted") sortedIS := ⟨_, cr_sorted, fun xs R hy vs w Q av q => by
  unfold sortedIS at hy
  split at hy
  · obtain ⟨v, rfl, hv⟩ := av.one
    obtain ⟨ys, rfl, hz, hr⟩ := hy
    cases hv with
    | lst h1 d1 =>
      rw [d1.ints] at h1
      exact ⟨_, ys, rfl, .inl (.inl (w.sub _ _ h1)), hz, fun zs p hp hs hf => Le.lst (DdA.ofInts zs) (hr zs hp hs) q p hf⟩
  · exact hy.elim⟩
end
/-- whole numbers in a list of data -/
def natD (ns : List Nat) : List PyData := ns.map fun (n : Nat) => .int (n : Int)
theorem natD_ints (ns : List Nat) : natD ns = (ns.map fun (n : Nat) => (n : Int)).map .int := by
  unfold natD
  rw [List.map_map]
  rfl
theorem range_natD (n : Nat) : rangeD 0 n = natD (List.range n) := by
  unfold rangeD natD
  refine List.map_congr_left fun i _ => ?_
  rw [Int.zero_add]
theorem le_sorted_one : ∀ {xs ys : List Int}, xs.Pairwise (· ≤ ·) → ys.Pairwise (· ≤ ·) → xs.Perm ys → xs = ys
  | [], ys, _, _, h => (List.nil_perm.mp h).symm
  | x :: xs, [], _, _, h => absurd (List.perm_nil.mp h) (List.cons_ne_nil _ _)
  | x :: xs, y :: ys, hx, hy, h => by
    obtain ⟨x1, x2⟩ := List.pairwise_cons.mp hx
    obtain ⟨y1, y2⟩ := List.pairwise_cons.mp hy
    have e : x = y := by
      rcases List.mem_cons.mp (h.subset List.mem_cons_self) with e | m
      · exact e
      · rcases List.mem_cons.mp (h.symm.subset List.mem_cons_self) with e | m2
        · exact e.symm
        · have := y1 x m
          have := x1 y m2
          omega
    subst e
    rw [le_sorted_one x2 y2 ((List.perm_cons x).mp h)]
end Kp


namespace Kp
open PySem PySem.Spec PyProof.Rows L2
/-! ### texts in order: one way alone -/
abbrev leT (a b : Str) : Prop := ltCps b.cps.toList a.cps.toList = false
theorem leT_iff {a b : Str} : leT a b ↔ a.cps.toList ≤ b.cps.toList := by
  unfold leT
  rw [ltCps_eq, decide_eq_false_iff_not]
  exact List.not_lt
theorem leT_trans {a b c : Str} (h : leT a b) (k : leT b c) : leT a c := leT_iff.mpr (List.le_trans (leT_iff.mp h) (leT_iff.mp k))
theorem leT_anti {a b : Str} (h : leT a b) (k : leT b a) : a = b := by
  have e := List.le_antisymm (leT_iff.mp h) (leT_iff.mp k)
  cases a
  cases b
  exact congrArg Str.mk (Array.toList_inj.mp e)
theorem rising_pw : ∀ {l : List Str} {p : Str}, risingS p l = true → (∀ z ∈ l, leT p z) ∧ l.Pairwise leT
  | [], p, _ => ⟨fun z h => absurd h List.not_mem_nil, .nil⟩
  | y :: l, p, h => by
    have h : (!ltCps y.cps.toList p.cps.toList && risingS y l) = true := h
    rw [Bool.and_eq_true, Bool.not_eq_true'] at h
    obtain ⟨h1, h2⟩ := h
    obtain ⟨k1, k2⟩ := rising_pw h2
    refine ⟨fun z hz => ?_, .cons k1 k2⟩
    rcases List.mem_cons.mp hz with rfl | hz
    · exact h1
    · exact leT_trans h1 (k1 z hz)
theorem sorted_pw : ∀ {l : List Str}, sortedS l = true → l.Pairwise leT
  | [], _ => .nil
  | y :: l, h => by
    obtain ⟨k1, k2⟩ := rising_pw (l := l) (p := y) h
    exact .cons k1 k2
theorem pw_eq : ∀ {xs ys : List Str}, xs.Pairwise leT → ys.Pairwise leT → xs.Nodup → ys.Nodup → (∀ z, z ∈ xs ↔ z ∈ ys) → xs = ys
  | [], [], _, _, _, _, _ => rfl
  | [], y :: ys, _, _, _, _, h => absurd ((h y).mpr List.mem_cons_self) List.not_mem_nil
  | x :: xs, [], _, _, _, _, h => absurd ((h x).mp List.mem_cons_self) List.not_mem_nil
  | x :: xs, y :: ys, h1, h2, n1, n2, h => by
    obtain ⟨a1, a2⟩ := List.pairwise_cons.mp h1
    obtain ⟨b1, b2⟩ := List.pairwise_cons.mp h2
    obtain ⟨c1, c2⟩ := List.nodup_cons.mp n1
    obtain ⟨d1, d2⟩ := List.nodup_cons.mp n2
    have e : x = y := by
      rcases List.mem_cons.mp ((h x).mp List.mem_cons_self) with e | e
      · exact e
      · rcases List.mem_cons.mp ((h y).mpr List.mem_cons_self) with f | f
        · exact f.symm
        · exact leT_anti (a1 y f) (b1 x e)
    subst e
    congr 1
    refine pw_eq a2 b2 c2 d2 fun z => ?_
    have hz := h z
    rw [List.mem_cons, List.mem_cons] at hz
    constructor
    · intro q
      exact (hz.mp (.inr q)).resolve_left fun e => c1 (e ▸ q)
    · intro q
      exact (hz.mpr (.inr q)).resolve_left fun e => d1 (e ▸ q)
theorem sorted_eq {xs ys : List Str} (h1 : sortedS xs = true) (h2 : sortedS ys = true) (n1 : xs.Nodup) (n2 : ys.Nodup) (h : ∀ z, z ∈ xs ↔ z ∈ ys) : xs = ys := pw_eq (sorted_pw h1) (sorted_pw h2) n1 n2 h
end Kp


namespace K61
open PySem PySem.Spec PyProof.Rows L2 Kp
/-! ### programs called otherwise -/
/-- where a deed has its box -/
def plOf (z : Str) : Option Nat := if z = "write" then some 1 else if z = "fence" ∨ z = "skip" ∨ z = "claim" then none else some 2
def strF (f : Str → Str) : PyData → PyData
  | .str b => .str (f b)
  | d => d
def renD (f : Str → Str) : PyData → PyData
  | .tuple (.str z :: rest) => match plOf z with
    | none => .tuple (.str z :: rest)
    | some p => .tuple ((PyData.str z :: rest).set p (strF f ((PyData.str z :: rest).getD p .none)))
  | d => d
def isBox : Kd → Bool
  | .box => true
  | _ => false
/-- a place of a box: kinds by number -/
theorem kinds_nine {z : Str} {ks : List Kd} (h : kindsOf z = some ks) : (plOf z = none ∧ (z = "fence" ∨ z = "skip" ∨ z = "claim") ∧ (∀ k ∈ ks, isBox k = false)) ∨ (z = "write" ∧ plOf z = some 1 ∧ ∃ r, ks = .box :: r ∧ ∀ k ∈ r, isBox k = false) ∨
    (z ≠ "fence" ∧ z ≠ "skip" ∧ z ≠ "claim" ∧ z ≠ "write" ∧ plOf z = some 2 ∧ ∃ k0 r, ks = k0 :: .box :: r ∧ isBox k0 = false ∧ ∀ k ∈ r, isBox k = false) := by
  unfold kindsOf at h
  repeat' (split at h)
  all_goals (try (cases h; done))
  all_goals (cases Option.some.inj h; rename_i e; subst e)
  all_goals first
    | exact .inl ⟨rfl, by decide, by decide⟩
    | exact .inr (.inl ⟨rfl, rfl, _, rfl, by decide⟩)
    | exact .inr (.inr ⟨by decide, by decide, by decide, by decide, rfl, _, _, rfl, by decide, by decide⟩)
/-- a deed by its parts -/
structure Parts (bs : List Str) (z : Str) (ks : List Kd) (rest : List PyData) : Prop where
  kind : kindsOf z = some ks
  len : rest.length = ks.length
  fit : ∀ p ∈ ks.zip rest, fitsB bs p.1 p.2 = true
theorem parts_of {bs : List Str} {d : PyData} (h : deedB bs d = true) : ∃ z ks rest, d = .tuple (.str z :: rest) ∧ Parts bs z ks rest := by
  unfold deedB at h
  split at h
  · rename_i z rest
    split at h
    · cases h
    · rename_i ks hk
      rw [Bool.and_eq_true, decide_eq_true_eq, List.all_eq_true] at h
      exact ⟨z, ks, rest, rfl, hk, h.1, h.2⟩
  · cases h
theorem fits_box {bs : List Str} {d : PyData} (h : fitsB bs .box d = true) : ∃ b, d = .str b ∧ b ∈ bs := by
  cases d with
  | str b => exact ⟨b, rfl, of_decide_eq_true h⟩
  | _ => cases h
theorem fits_other {bs bs' : List Str} {k : Kd} {d : PyData} (hk : isBox k = false) (h : fitsB bs k d = true) : fitsB bs' k d = true := by
  cases k with
  | box => cases hk
  | _ => exact h
/-- the deed with its box otherwise is a deed over the other boxes -/
theorem ren_gd {bs bs' : List Str} {f : Str → Str} (hf : ∀ b ∈ bs, f b ∈ bs' ∧ short (f b) = true) {d : PyData} (h : Gd bs d) : Gd bs' (renD f d) := by
  obtain ⟨h1, h2, h3, _⟩ := h
  obtain ⟨z, ks, rest, rfl, P⟩ := parts_of h1
  have h2 : (decide ((PyData.str z :: rest).length ≤ 20) && (PyData.str z :: rest).all (sm 0)) = true := h2
  rw [Bool.and_eq_true, List.all_eq_true] at h2
  have hz : short z = true := h2.2 (.str z) List.mem_cons_self
  have k1 : 1 ≤ ks.length := by
    rcases kinds_nine P.kind with ⟨_, h, _⟩ | ⟨_, _, r, e, _⟩ | ⟨_, _, _, _, _, k0, r, e, _⟩
    · have hk := P.kind
      rcases h with rfl | rfl | rfl <;> (cases hk; decide)
    · subst e; exact Nat.succ_le_succ (Nat.zero_le _)
    · subst e; exact Nat.succ_le_succ (Nat.zero_le _)
  rcases kinds_nine P.kind with ⟨e1, _, hno⟩ | ⟨_, e1, r, ek, hno⟩ | ⟨_, _, _, _, e1, k0, r, ek, h0, hno⟩
  · show Gd bs' (match plOf z with | none => _ | some p => _)
    rw [e1]
    exact gd_of hz P.kind P.len k1 (fun p hp => fits_other (hno _ (List.of_mem_zip hp).1) (P.fit p hp)) fun d hd => h2.2 d (List.mem_cons_of_mem _ hd)
  · subst ek
    show Gd bs' (match plOf z with | none => _ | some p => _)
    rw [e1]
    have hl := P.len
    match rest, hl, P, h2 with
    | x :: rest, hl, P, h2 =>
      obtain ⟨b, rfl, hb⟩ := fits_box (P.fit (.box, x) (by rw [List.zip_cons_cons]; exact List.mem_cons_self))
      refine gd_of (rest := .str (f b) :: rest) hz P.kind hl k1 (fun p hp => ?_) fun d hd => ?_
      · rw [List.zip_cons_cons] at hp
        rcases List.mem_cons.mp hp with q | q
        · subst q; exact fit_box (hf b hb).1
        · exact fits_other (hno _ (List.of_mem_zip q).1) (P.fit p (by rw [List.zip_cons_cons]; exact List.mem_cons_of_mem _ q))
      · rcases List.mem_cons.mp hd with q | q
        · subst q; exact (hf b hb).2
        · exact h2.2 d (List.mem_cons_of_mem _ (List.mem_cons_of_mem _ q))
  · subst ek
    show Gd bs' (match plOf z with | none => _ | some p => _)
    rw [e1]
    have hl := P.len
    match rest, hl, P, h2 with
    | y :: x :: rest, hl, P, h2 =>
      obtain ⟨b, rfl, hb⟩ := fits_box (P.fit (.box, x) (by rw [List.zip_cons_cons, List.zip_cons_cons]; exact List.mem_cons_of_mem _ List.mem_cons_self))
      refine gd_of (rest := y :: .str (f b) :: rest) hz P.kind hl k1 (fun p hp => ?_) fun d hd => ?_
      · rw [List.zip_cons_cons, List.zip_cons_cons] at hp
        rcases List.mem_cons.mp hp with q | q
        · subst q; exact fits_other h0 (P.fit (k0, y) (by rw [List.zip_cons_cons]; exact List.mem_cons_self))
        · rcases List.mem_cons.mp q with q | q
          · subst q; exact fit_box (hf b hb).1
          · exact fits_other (hno _ (List.of_mem_zip q).1) (P.fit p (by rw [List.zip_cons_cons, List.zip_cons_cons]; exact List.mem_cons_of_mem _ (List.mem_cons_of_mem _ q)))
      · rcases List.mem_cons.mp hd with q | q
        · subst q; exact h2.2 _ (List.mem_cons_of_mem _ List.mem_cons_self)
        · rcases List.mem_cons.mp q with q | q
          · subst q; exact (hf b hb).2
          · exact h2.2 d (List.mem_cons_of_mem _ (List.mem_cons_of_mem _ (List.mem_cons_of_mem _ q)))
/-- renamed there and back -/
theorem ren_back {bs : List Str} {f g : Str → Str} (hg : ∀ b ∈ bs, g (f b) = b) {d : PyData} (h : Gd bs d) : renD g (renD f d) = d := by
  obtain ⟨z, ks, rest, rfl, P⟩ := parts_of h.1
  rcases kinds_nine P.kind with ⟨e1, _, hno⟩ | ⟨_, e1, r, ek, hno⟩ | ⟨_, _, _, _, e1, k0, r, ek, h0, hno⟩
  · have q : ∀ f, renD f (.tuple (.str z :: rest)) = .tuple (.str z :: rest) := fun f => by
      show (match plOf z with | none => _ | some p => _) = _
      rw [e1]
    rw [q, q]
  · subst ek
    have hl := P.len
    match rest, hl, P with
    | x :: rest, hl, P =>
      obtain ⟨b, rfl, hb⟩ := fits_box (P.fit (.box, x) (by rw [List.zip_cons_cons]; exact List.mem_cons_self))
      have q : ∀ (f : Str → Str) (b : Str), renD f (.tuple (.str z :: .str b :: rest)) = .tuple (.str z :: .str (f b) :: rest) := fun f b => by
        show (match plOf z with | none => _ | some p => _) = _
        rw [e1]
        rfl
      rw [q, q, hg b hb]
  · subst ek
    have hl := P.len
    match rest, hl, P with
    | y :: x :: rest, hl, P =>
      obtain ⟨b, rfl, hb⟩ := fits_box (P.fit (.box, x) (by rw [List.zip_cons_cons, List.zip_cons_cons]; exact List.mem_cons_of_mem _ List.mem_cons_self))
      have q : ∀ (f : Str → Str) (b : Str), renD f (.tuple (.str z :: y :: .str b :: rest)) = .tuple (.str z :: y :: .str (f b) :: rest) := fun f b => by
        show (match plOf z with | none => _ | some p => _) = _
        rw [e1]
        rfl
      rw [q, q, hg b hb]
theorem ren_id {bs : List Str} {f : Str → Str} (hg : ∀ b ∈ bs, f b = b) {d : PyData} (h : Gd bs d) : renD f d = d := by
  obtain ⟨z, ks, rest, rfl, P⟩ := parts_of h.1
  rcases kinds_nine P.kind with ⟨e1, _, hno⟩ | ⟨_, e1, r, ek, hno⟩ | ⟨_, _, _, _, e1, k0, r, ek, h0, hno⟩
  · show (match plOf z with | none => _ | some p => _) = _
    rw [e1]
  · subst ek
    have hl := P.len
    match rest, hl, P with
    | x :: rest, hl, P =>
      obtain ⟨b, rfl, hb⟩ := fits_box (P.fit (.box, x) (by rw [List.zip_cons_cons]; exact List.mem_cons_self))
      show (match plOf z with | none => _ | some p => _) = _
      rw [e1]
      show PyData.tuple (.str z :: .str (f b) :: rest) = _
      rw [hg b hb]
  · subst ek
    have hl := P.len
    match rest, hl, P with
    | y :: x :: rest, hl, P =>
      obtain ⟨b, rfl, hb⟩ := fits_box (P.fit (.box, x) (by rw [List.zip_cons_cons, List.zip_cons_cons]; exact List.mem_cons_of_mem _ List.mem_cons_self))
      show (match plOf z with | none => _ | some p => _) = _
      rw [e1]
      show PyData.tuple (.str z :: y :: .str (f b) :: rest) = _
      rw [hg b hb]
end K61


namespace Kp
open PySem PySem.Spec PyProof.Rows L2
section
variable {X : Cx} {w0 : Wl} {ss : SS} {st : Store}
/-- o.pop(e) of a list of the store -/
theorem me_popAt {o e : Expr} {apos cpos : Pos} {R : Store → AV → Prop}
    (h : KE X (w0.at st) o ss fun a => ∃ p as0, a = .at_ p ∧ (p, Ck.lst, as0) ∈ st ∧ ME X w0 e st ss fun st' x => onInt x fun i => ∃ as k y, (p, Ck.lst, as) ∈ st' ∧ i = ((k : Nat) : Int) ∧ as[k]? = some y ∧ as.length ≤ 100000 ∧ R (stSet st' p (as.eraseIdx k)) y)
    (hbase : attributeBase o "pop" X.env (eval o X.env) = eval o X.env := by rfl)
    (hfew : ((backTo cpos (starEach [e] X.env)).all (fun x => !x.1) && (backToKw cpos (keywordEach [] X.env)).all (fun x => x.1.isSome) && decide (([e] : List Expr).length + ([] : List Keyword).length + (if ([] : List Keyword).isEmpty then 0 else 1) < 30)) = true := by rfl)
    (hline : (apos.endLine == cpos.line) = true := by rfl) (hs : starEach [e] X.env = (false, eval e X.env) :: starEach [] X.env := by rfl) (hplain : (backTo cpos (starEach [] X.env)).any (·.1) = false := by rfl) :
    ME X w0 (.Call (.Attribute o "pop" apos) [e] [] cpos) st ss R := by
  refine PE.imp (pe_bm PySem.F.plainAttrs_list PySem.F.slot_list_pop PySem.F.type_list_pop mt_popAt h (pa_cons (pe_anM (w0 := w0)) pa_nil hs) hbase hfew hline hs hplain) fun σ H Q ⟨w, ew, hsl, q⟩ => ?_
  refine ⟨w, ew, hsl, fun v a w1 l1 hv ⟨p, as0, ea, m0, he⟩ => ?_⟩
  subst ea
  cases hv
  have hs1 := hsl.mono l1
  obtain ⟨_, _, vs0, g1, _, _⟩ := hs1.so.key m0
  have g1 : w1.h p = some (.lst vs0) := g1
  refine ⟨.inl ⟨rfl, _, .inl (.inl g1)⟩, st, ss, _, he, w1, rfl, hs1, fun u x st' w2 e2 hs2 hu hx => ?_⟩
  obtain ⟨i, rfl, as, k, y, m, rfl, hy, hz, hk⟩ := hx.of
  cases hu
  obtain ⟨_, hpa, vs, k1, k2, k3⟩ := hs2.so.key m
  have k1 : w2.h p = some (.lst vs) := k1
  obtain ⟨vy, hvy, hay⟩ := k3.get hy
  have hkl : k < vs.length := (List.getElem?_eq_some_iff.mp hvy).1
  have lz : vs.length ≤ 100000 := by rw [k3.length]; exact hz
  have hsq : seqIndex? ((k : Nat) : Int) vs.length = some k := by
    unfold seqIndex?
    have q1 : ¬ (((k : Nat) : Int) < 0) := by omega
    have q2 : (decide (0 ≤ ((k : Nat) : Int)) && decide (((k : Nat) : Int) < (vs.length : Nat))) = true := by
      simp only [Bool.and_eq_true, decide_eq_true_eq]
      omega
    simp only [if_neg q1]
    rw [if_pos q2]
    rfl
  refine ⟨p, vs, (k : Int), k, vy, rfl, rfl, k1, by omega, by omega, hsq, hvy, ?_⟩
  have hall : (as.eraseIdx k).all AV.plain = true := List.all_eq_true.mpr fun z hz => List.all_eq_true.mp hpa z (List.mem_of_mem_eraseIdx hz)
  exact q vy y _ (w2.own p (.lst (vs.eraseIdx k)) k2) (l1.g.trans e2) (hs2.setC m k2 (AvA.erase k k3) hall) (Av.monoG (w1 := w2) (w2 := w2.own p (.lst (vs.eraseIdx k)) k2) (Ex.refl w2.g) (List.all_eq_true.mp hpa y (List.mem_of_getElem? hy)) hay) hk
where
  AvA.erase {K : PySem.W.Frag} {w : Wl} : ∀ {vs : List V} {as : List AV} (n : Nat), AvA K w vs as → AvA K w (vs.eraseIdx n) (as.eraseIdx n)
    | _, _, _, .nil => .nil
    | _, _, 0, .cons _ t => t
    | _, _, n + 1, .cons h t => .cons h (AvA.erase n t)
end
/-- by the name x a def is called with keywords that does C to the store -/
def DnKM (P : Program) (w : World) (K : PySem.W.Frag) (mg : Str → Option Value) (base : Heap) (x : Str) (k n : Nat) (ks : List Str) (gA : List AV → List AV → List AV) (C : Store → List AV → (Store → AV → Prop) → Prop) : Prop := ∃ (f : Addr) (fd : FuncData) (ps : List Str) (g : List Value → List Value → List Value) (gV : List V → List V → List V),
  FnOk P w K mg base CX0 k f fd ps (spM K C) ∧ mg x = some (.ref f) ∧ PySem.W.keepIn K (.ref f) = true ∧ KBn K fd ps n ks g gV ∧ ∀ (w' : Wl) (vs zs : List V) (as bs : List AV), AvA K w' vs as → AvA K w' zs bs → AvA K w' (gV vs zs) (gA as bs)
section
variable {X : Cx} {w0 : Wl} {ss : SS} {st : Store}
theorem me_cdK {C : Store → List AV → (Store → AV → Prop) → Prop} {j k n : Nat} {ks : List Str} {gA : List AV → List AV → List AV} {x : Str} {p pos : Pos} {e : Expr} {es : List Expr} {kws : List Keyword} {R : Store → AV → Prop} (D : DnKM X.prog X.w X.K X.mg X.base x k n ks gA C) (hr : Room j X.A) (hk : k ≤ j) (hg : Gl X x)
    (h : KA X (w0.at st) (e :: es) ss fun as => KK X (w0.at st) kws ss fun bs => as.length = n ∧ bs.length = ks.length ∧ (gA as bs).all AV.plain = true ∧ C st (gA as bs) R)
    (hall : (backToKw pos (keywordEach kws X.env)).all (·.1.isSome) = true := by rfl) (hks : (backToKw pos (keywordEach kws X.env)).filterMap (·.1) = ks := by rfl)
    (hdb : (x == ("__debug__" : Str)) = false := by decide) (he : starEach (e :: es) X.env = (false, eval e X.env) :: starEach es X.env := by rfl)
    (hpl : ((backTo pos (starEach (e :: es) X.env)).any (·.1) || (backToKw pos (keywordEach kws X.env)).any (·.1.isNone)) = false := by rfl) : ME X w0 (.Call (.Name x p) (e :: es) kws pos) st ss R := by
  obtain ⟨f, fd, ps, g, gV, F, hm, hkp, hb, hA⟩ := D
  exact PE.imp (pe_callN F (hr.mono hk) hg hm hkp hb pass0 h (pk_an (w0 := w0.at st) (ss := ss)) hall hks hdb he hpl) fun σ H Q ⟨w, ew, hs, q⟩ => ⟨w, ew, hs, fun vs as w1 l1 hvs hk => ⟨_, hk, w1, rfl, hs.mono l1, fun zs bs w2 l2 hzs ⟨n1, n2, n3, n4⟩ => ⟨by rw [hvs.length]; exact n1, by rw [hzs.length]; exact n2,
    spM_go (hs.mono (l1.trans l2)) (hA w2 vs zs as bs (hvs.mono l2) hzs) ⟨n3, n4⟩ fun v a st' w' eg hs' hv hr => q v a st' w' ((l1.trans l2).g.trans eg) hs' hv hr⟩⟩⟩
end
section
variable {base : Heap} {K : PySem.W.Frag} {w : World} {P : Program} {mg : Str → Option Value}
theorem okMD {x qual : Str} {sm : Stmt} {kws : List (Str × V)} {f : Addr} {fd : FuncData} {N ps : List Str} {k : Nat} {C : Store → List AV → (Store → AV → Prop) → Prop} (F : FunD K x qual (defArgs sm) (defBody sm) (defScope sm) [] kws f fd) (S : FnScope N ps (defScope sm)) (len : ∀ st as R, C st as R → as.length = ps.length)
    (hbody : ∀ (cdv : Value) (A : Around) (outer : List Env) (s : Shared) (H : Hp) (E : XK) (w0 : Wl) (st : Store) (as : List AV) (R : Store → AV → Prop), Room k (A.deeper (envOfC qual (defScope sm) s.heap.objs.size f cdv)) → C st as R →
      MSs (cxB P w K mg base N qual (defScope sm) f cdv A outer s H E) w0 (defBody sm) st (ss0 N.length as) { nx := fun st' _ => R st' (.dat .none), rt := R }) : FnOk P w K mg base CX0 (k + 1) f fd ps (spM K C) := by
  refine F.ok S (fun vs H Q E ⟨w0, w1, st, as, R, e, l, o, hv, hc, q⟩ => by rw [hv.length]; exact len st as R hc.2) fun cdv A outer s H vs Q E hr ⟨w0, w1, st, as, R, e, l, o, hv, hc, q⟩ => ?_
  refine ⟨_, (hbody cdv A outer s H E w0 st as R hr hc.2).nox, w1, e, Sl.startM l o hv hc.1, ⟨fun σ' ss' st' w' eg hs hk => q .non (.dat .none) st' w' hs.le.unat eg hs.so .non hk, fun v a st' w' eg hl ho ha hr => q v a st' w' hl eg ho ha hr, fun _ _ _ _ _ _ h => h.elim, fun _ _ _ _ _ _ h => h.elim⟩⟩
/-- a def with keyword-only parameters, its body read: all ways of its call come of this -/
structure DefM (P : Program) (w : World) (K : PySem.W.Frag) (mg : Str → Option Value) (base : Heap) (x : Str) (st : Stmt) (kws : List (Str × V)) (ps : List Str) (k : Nat) (C : Store → List AV → (Store → AV → Prop) → Prop) (f : Addr) (fd : FuncData) : Prop where
  F : FunD K x x (defArgs st) (defBody st) (defScope st) [] kws f fd
  m : mg x = some (.ref f)
  ok : FnOk P w K mg base CX0 k f fd ps (spM K C)
theorem defM {x : Str} {sm : Stmt} {kws : List (Str × V)} {N ps : List Str} {k : Nat} {C : Store → List AV → (Store → AV → Prop) → Prop} (F : FnD0 K mg x sm kws) (S : FnScope N ps (defScope sm)) (len : ∀ st as R, C st as R → as.length = ps.length)
    (hbody : ∀ (f : Addr) (cdv : Value) (A : Around) (outer : List Env) (s : Shared) (H : Hp) (E : XK) (w0 : Wl) (st : Store) (as : List AV) (R : Store → AV → Prop), Room k (A.deeper (envOfC x (defScope sm) s.heap.objs.size f cdv)) → C st as R →
      MSs (cxB P w K mg base N x (defScope sm) f cdv A outer s H E) w0 (defBody sm) st (ss0 N.length as) { nx := fun st' _ => R st' (.dat .none), rt := R }) : ∃ f fd, DefM P w K mg base x sm kws ps (k + 1) C f fd := by
  obtain ⟨f, fd, F, hm⟩ := F
  exact ⟨f, fd, F, hm, okMD F S len (hbody f)⟩
theorem DefM.kw {x : Str} {sm : Stmt} {kws : List (Str × V)} {ps : List Str} {k n : Nat} {C : Store → List AV → (Store → AV → Prop) → Prop} {f : Addr} {fd : FuncData} {ks : List Str} {gA : List AV → List AV → List AV} (D : DefM P w K mg base x sm kws ps k C f fd)
    (kb : ∃ g gV, KBn K fd ps n ks g gV ∧ ∀ (w' : Wl) (vs zs : List V) (as bs : List AV), AvA K w' vs as → AvA K w' zs bs → AvA K w' (gV vs zs) (gA as bs)) : DnKM P w K mg base x k n ks gA C := by
  obtain ⟨g, gV, h1, h2⟩ := kb
  exact ⟨f, fd, ps, g, gV, D.ok, D.m, D.F.kp, h1, h2⟩
/-- what a def over the store does, as what it does over data -/
def DatOf (C : Store → List AV → (Store → AV → Prop) → Prop) (C' : List AV → (AV → Prop) → Prop) : Prop := ∀ as R, C' as R → C [] as fun st' a => (∃ d, Spl st' a d ∧ R (.dat d)) ∨ ∃ p C fs, a = .at_ p ∧ SplI st' p C fs ∧ R (.ins C fs)
theorem DefM.kwD {x : Str} {sm : Stmt} {kws : List (Str × V)} {ps : List Str} {k n : Nat} {C : Store → List AV → (Store → AV → Prop) → Prop} {C' : List AV → (AV → Prop) → Prop} {f : Addr} {fd : FuncData} {ks : List Str} {gA : List AV → List AV → List AV} (D : DefM P w K mg base x sm kws ps k C f fd) (h : DatOf C C')
    (kb : ∃ g gV, KBn K fd ps n ks g gV ∧ ∀ (w' : Wl) (vs zs : List V) (as bs : List AV), AvA K w' vs as → AvA K w' zs bs → AvA K w' (gV vs zs) (gA as bs)) : DnK P w K mg base x k n ks gA C' := by
  obtain ⟨g, gV, h1, h2⟩ := kb
  exact ⟨f, fd, ps, g, gV, D.ok.imp fun vs H Q E q => spM_data h q, D.m, D.F.kp, h1, h2⟩
theorem DefM.noD {x : Str} {sm : Stmt} {kws : List (Str × V)} {ps : List Str} {k m : Nat} {C : Store → List AV → (Store → AV → Prop) → Prop} {C' : List AV → (AV → Prop) → Prop} {f : Addr} {fd : FuncData} (D : DefM P w K mg base x sm kws ps k C f fd) (h : DatOf C C')
    (hb : ∃ ds, Binds K fd ps ds ∧ Vals (List.replicate m V.non) ds) : DnD P w K mg base x k m C' := by
  obtain ⟨ds, h1, h2⟩ := hb
  exact ⟨f, fd, ps, ds, D.ok.imp fun vs H Q E q => spM_data h q, D.m, D.F.kp, h1, h2⟩
end
end Kp


namespace Kp
open PySem PySem.Spec PyProof.Rows L2
/-! ### what can be shown: so deep, of so many signs at most -/
structure Rp (n b : Nat) (d : PyData) : Prop where
  ok : d.showable = true
  deep : d.depth ≤ n
  len : d.shown.length ≤ b
theorem Rp.mono {n m b c : Nat} {d : PyData} (h : Rp n b d) (h1 : n ≤ m) (h2 : b ≤ c) : Rp m c d := ⟨h.ok, Nat.le_trans h.deep h1, Nat.le_trans h.len h2⟩
theorem Rp.sm {n : Nat} {d : PyData} (h : sm n d = true) : Rp n (smB n) d := ⟨(sm_ok n d h).1, (sm_ok n d h).2.1, (sm_ok n d h).2.2⟩
theorem Rp.all {n b k : Nat} {ds : List PyData} (h : ∀ d ∈ ds, Rp n b d) (hk : ds.length ≤ k) : PyData.showableAll ds = true ∧ PyData.depthAll ds ≤ n ∧ (Str.join ", " (PyData.shownAll ds)).length ≤ k * (b + 2) := by
  refine ⟨showableAll_of fun d hd => (h d hd).ok, depthAll_of fun d hd => (h d hd).deep, ?_⟩
  have h1 := StrLaws.join_length_le ", " (PyData.shownAll ds)
  rw [show ((", " : String) : Str).length = 2 from rfl] at h1
  have h2 := sum_le (l := PyData.shownAll ds) (b := b) (fun t ht => by
    obtain ⟨d, hd, rfl⟩ := shownAll_mem ht
    exact (h d hd).len)
  have h3 : (PyData.shownAll ds).length ≤ k := by rw [PyData.shownAll_length]; exact hk
  have h5 : (PyData.shownAll ds).length * b ≤ k * b := Nat.mul_le_mul_right _ h3
  rw [Nat.mul_add]
  omega
theorem Rp.list {n b k : Nat} {ds : List PyData} (h : ∀ d ∈ ds, Rp n b d) (hk : ds.length ≤ k) : Rp (n + 1) (k * (b + 2) + 4) (.list ds) := by
  obtain ⟨h1, h2, h3⟩ := Rp.all h hk
  refine ⟨?_, ?_, ?_⟩
  · simp only [PyData.showable]
    exact h1
  · simp only [PyData.depth]
    exact Nat.succ_le_succ h2
  · rw [PyData.shown_list, Str.length_append, Str.length_append]
    have e1 : (("[" : String) : Str).length = 1 := rfl
    have e2 : (("]" : String) : Str).length = 1 := rfl
    omega
theorem Rp.tup {n b k : Nat} {ds : List PyData} (h : ∀ d ∈ ds, Rp n b d) (hk : ds.length ≤ k) : Rp (n + 1) (k * (b + 2) + 4) (.tuple ds) := by
  obtain ⟨h1, h2, h3⟩ := Rp.all h hk
  refine ⟨?_, ?_, ?_⟩
  · simp only [PyData.showable]
    exact h1
  · simp only [PyData.depth]
    exact Nat.succ_le_succ h2
  · rw [PyData.shown_tuple, Str.length_append, Str.length_append]
    have e1 : (("(" : String) : Str).length = 1 := rfl
    have e2 : (((if ds.length == 1 then ",)" else ")" : String)) : Str).length ≤ 2 := by split <;> decide
    omega
/-- what repr asks -/
theorem Rp.top {n b : Nat} {d : PyData} (h : Rp n b d) (hn : n ≤ 20) (hb : b ≤ 16777216) : d.showable = true ∧ d.depth ≤ 20 ∧ d.shown.length ≤ 16777216 := ⟨h.ok, Nat.le_trans h.deep hn, Nat.le_trans h.len hb⟩
end Kp


namespace K61
open PySem PySem.Spec PyProof.Rows L2 Kp
/-! ### programs that are none but by their own looks: valid ones -/
theorem lt_of_leT {p z : Str} (h : leT p z) (ne : p ≠ z) : lessB p z = true := by
  refine decide_eq_true ?_
  by_cases q : p.cps.toList < z.cps.toList
  · exact q
  · exact absurd (leT_anti h (leT_iff.mpr (List.not_lt.mp q))) ne
theorem wbox_up : ∀ (bs : List Str) (p : Str) (i : Nat), (∀ z ∈ p :: bs, nameB (.str z) = true) → (p :: bs).Nodup → risingS p bs = true → wbox (some p) i (bs.map .str) = none
  | [], _, _, _, _, _ => rfl
  | z :: bs, p, i, hm, hn, hr => by
    have hr : (!ltCps z.cps.toList p.cps.toList && risingS z bs) = true := hr
    rw [Bool.and_eq_true, Bool.not_eq_true'] at hr
    obtain ⟨n1, n2⟩ := List.nodup_cons.mp hn
    have e1 : nameB (.str z) = true := hm z (List.mem_cons_of_mem _ List.mem_cons_self)
    have e2 : riseB (some p) z = true := lt_of_leT hr.1 (fun e => n1 (by rw [e]; exact List.mem_cons_self))
    show (if (nameB (.str z) && riseB (some p) z) = true then wbox (some z) (i + 1) (bs.map .str) else some i) = none
    rw [e1, e2, Bool.and_self, if_pos rfl]
    exact wbox_up bs z (i + 1) (fun x hx => hm x (List.mem_cons_of_mem _ hx)) n2 hr.2
structure Pv (bs : List Str) (hs : List (List PyData)) : Prop where
  b1 : 1 ≤ bs.length ∧ bs.length ≤ 4
  nm : ∀ z ∈ bs, nameB (.str z) = true ∧ short z = true
  nd : bs.Nodup
  up : sortedS bs = true
  h4 : 1 ≤ hs.length ∧ hs.length ≤ 4
  few : ∀ l ∈ hs, l.length ≤ 4
  gd : ∀ l ∈ hs, ∀ d ∈ l, Gd bs d
theorem Pv.of {bs : List Str} {hs : List (List PyData)} (hb : Bxs bs) (hh : Hsm bs 4 4 hs) : Pv bs hs := by
  obtain ⟨rest, hp⟩ := hb.of_
  have hmem : ∀ z ∈ bs, z ∈ bMenu := fun z hz => hp.subset (List.mem_append_left _ hz)
  have h4 := hh.some_
  exact ⟨hb.some_, fun z hz => bMenu_ok z (hmem z hz), (List.nodup_append.mp (hp.nodup_iff.mpr menu_nodup)).1, hb.up, by omega, fun l hl => by have := hh.few l hl; omega, hh.good⟩
section
variable {bs : List Str} {hs : List (List PyData)}
theorem Pv.due (h : Pv bs hs) : dueLook (progD bs hs) = none := by
  have e1 : wbox none 0 (bs.map .str) = none := by
    have hup := h.up
    have h1 := h.b1.1
    have hn := h.nm
    have hd := h.nd
    cases bs with
    | nil => exact absurd h1 (by decide)
    | cons z bs =>
      have q : nameB (.str z) = true := (hn z List.mem_cons_self).1
      show (if (nameB (.str z) && true) = true then wbox (some z) 1 (bs.map .str) else some 0) = none
      rw [q, Bool.and_self, if_pos rfl]
      exact wbox_up bs z 1 (fun x hx => (hn x hx).1) hd hup
  have b1 := h.b1
  have h1 := h.h4
  have d1 : dueBoxes (.list (bs.map .str)) = none := by
    show (if (decide ((1 : Int) ≤ ((bs.map PyData.str).length : Int)) && decide (((bs.map PyData.str).length : Int) ≤ 4)) = true then (match wbox none 0 (bs.map .str) with | none => none | some n => some (PyData.str "boxes", PyData.none, PyData.int (n : Int))) else some (PyData.str "boxes", PyData.none, PyData.none)) = none
    rw [List.length_map, decide_eq_true (by omega), decide_eq_true (by omega), e1]
    rfl
  have f8 : ∀ l ∈ hs, l.length ≤ 8 := fun l hl => by have := h.few l hl; omega
  have d2 : dueHands (.list (hs.map .list)) = none := by
    show (if (decide ((1 : Int) ≤ ((hs.map PyData.list).length : Int)) && decide (((hs.map PyData.list).length : Int) ≤ 4)) = true then (match whand 0 (hs.map .list) with | none => none | some n => some (PyData.str "hands", PyData.int (n : Int), PyData.none)) else some (PyData.str "hands", PyData.none, PyData.none)) = none
    rw [List.length_map, decide_eq_true (by omega), decide_eq_true (by omega), whand_few hs 0 f8]
    rfl
  have d3 : dueDeeds bs hs = none := by
    unfold dueDeeds
    rw [wds_all hs 0 fun l hm d hd => (h.gd l hm d hd).1]
    show (if decide ((16 : Int) < ((hs.map fun h => (h.length : Int)).sum)) = true then _ else _) = _
    have := sum_few h.few
    have h5 : hs.length * 4 ≤ 16 := by omega
    rw [sum_int, decide_eq_false (by omega), if_neg Bool.false_ne_true]
  show (match dueBoxes (.list (bs.map .str)) with | some x => some x | none => match dueHands (.list (hs.map .list)) with | some x => some x | none => dueDeeds (strsOf (.list (bs.map .str))) (listsOf (.list (hs.map .list)))) = none
  rw [d1, d2, strs_back, lists_back]
  exact d3
theorem Pv.b3 (h : Pv bs hs) : sm 3 (.list (bs.map .str)) = true := lst_sm (n := 2) (by rw [List.length_map]; have := h.b1; omega) (strs_sm fun z hz => (h.nm z hz).2)
theorem Pv.l2 (h : Pv bs hs) : ∀ l ∈ hs, sm 2 (.list l) = true := fun l hl => lst_sm (n := 1) (by have := h.few l hl; omega) fun d hd => (h.gd l hl d hd).2.1
theorem Pv.h3 (h : Pv bs hs) : sm 3 (.list (hs.map .list)) = true := lst_sm (n := 2) (by rw [List.length_map]; have := h.h4; omega) fun d hd => by
  obtain ⟨l, hl, rfl⟩ := List.mem_map.mp hd
  exact h.l2 l hl
theorem Pv.okp (h : Pv bs hs) : okP (progD bs hs) := ⟨okB_sm h.b3, fun l hl x hx => by
  rw [lists_back] at hl
  obtain ⟨g1, g2, g3, _⟩ := h.gd l hl x hx
  exact okT_sm (n := 1) (by decide) g2 g3⟩
/-- what the law tells of a program: small -/
theorem Pv.rp (h : Pv bs hs) : Rp 4 1000100 (progD bs hs) := by
  have h1 : Rp 3 500000 (.list (hs.map .list)) := (Rp.list (k := 4) (fun d hd => by
    obtain ⟨l, hl, rfl⟩ := List.mem_map.mp hd
    exact Rp.sm (h.l2 l hl)) (by rw [List.length_map]; exact h.h4.2)).mono (by decide) (by decide)
  have h2 : Rp 1 2000 (.list (bs.map .str)) := (Rp.list (n := 0) (b := 300) (k := 4) (fun d hd => (Rp.sm (n := 0) (strs_sm (n := 0) (fun z hz => (h.nm z hz).2) d hd)).mono (by decide) (by decide)) (by rw [List.length_map]; exact h.b1.2)).mono (by decide) (by decide)
  refine (Rp.tup (n := 3) (b := 500000) (k := 2) (ds := [.list (bs.map .str), .list (hs.map .list)]) (fun d hd => ?_) (Nat.le_refl 2)).mono (by decide) (by decide)
  rcases List.mem_cons.mp hd with q | q
  · subst q; exact h2.mono (by decide) (by decide)
  · rcases List.mem_cons.mp q with q | q
    · subst q; exact h1
    · cases q
end
/-! ### orders -/
structure Od (n : Nat) (os : List Nat) : Prop where
  perm : os.Perm (List.range n)
section
variable {n : Nat} {os : List Nat}
theorem Od.len (h : Od n os) : os.length = n := by rw [h.perm.length_eq, List.length_range]
theorem Od.nd (h : Od n os) : os.Nodup := h.perm.nodup_iff.mpr List.nodup_range
theorem Od.mem (h : Od n os) {j : Nat} : j ∈ os ↔ j < n := by rw [h.perm.mem_iff, List.mem_range]
theorem Od.ix (h : Od n os) {j : Nat} (hj : j < n) : os.idxOf j < n ∧ os[os.idxOf j]? = some j := by
  have m := h.mem.mpr hj
  have lt := List.idxOf_lt_length_of_mem m
  refine ⟨h.len ▸ lt, ?_⟩
  rw [List.getElem?_eq_getElem lt, List.getElem_idxOf]
theorem Od.ixk (h : Od n os) {k j : Nat} (e : os[k]? = some j) : os.idxOf j = k := by
  obtain ⟨lt, e2⟩ := List.getElem?_eq_some_iff.mp e
  rw [← e2]
  exact h.nd.idxOf_getElem k lt
/-- where the hands are then -/
def invO (os : List Nat) : List Nat := (List.range os.length).map fun j => os.idxOf j
theorem Od.inv_at (h : Od n os) {j : Nat} (hj : j < n) : (invO os)[j]? = some (os.idxOf j) := by
  unfold invO
  rw [List.getElem?_map, List.getElem?_range (by rw [h.len]; exact hj)]
  rfl
theorem Od.inv (h : Od n os) : Od n (invO os) := by
  refine ⟨?_⟩
  have nd : (invO os).Nodup := by
    unfold invO
    refine List.Pairwise.map (R := fun a b => a ∈ List.range os.length ∧ b ∈ List.range os.length ∧ a ≠ b) _ (fun a b ⟨ha, hb, ne⟩ e => ne ?_) ?_
    · rw [List.mem_range, h.len] at ha hb
      have e1 := (h.ix ha).2
      have e2 := (h.ix hb).2
      rw [e, e2] at e1
      exact (Option.some.inj e1).symm
    · exact List.Pairwise.imp_of_mem (fun {a b} ha hb ne => ⟨ha, hb, ne⟩) List.nodup_range
  refine (List.perm_ext_iff_of_nodup nd List.nodup_range).mpr fun j => ?_
  rw [List.mem_range]
  constructor
  · intro m
    obtain ⟨k, hk, rfl⟩ := List.mem_map.mp m
    rw [List.mem_range, h.len] at hk
    exact (h.ix hk).1
  · intro hj
    have hj2 : j < os.length := by rw [h.len]; exact hj
    have e : os[j]? = some os[j] := by simp [hj2]
    have lt : os[j] < n := h.mem.mp (List.getElem_mem hj2)
    refine List.mem_map.mpr ⟨os[j], by rw [List.mem_range, h.len]; exact lt, h.ixk e⟩
/-- the hands in their new places, each deed otherwise -/
def calH (f : Str → Str) (hs : List (List PyData)) (os : List Nat) : List (List PyData) := (List.range os.length).map fun j => (hs.getD (os.idxOf j) []).map (renD f)
theorem calH_len (f : Str → Str) (hs : List (List PyData)) (os : List Nat) : (calH f hs os).length = os.length := by unfold calH; rw [List.length_map, List.length_range]
theorem calH_at {f : Str → Str} {hs : List (List PyData)} (h : Od hs.length os) {j : Nat} (hj : j < hs.length) : ∃ l, hs[os.idxOf j]? = some l ∧ (calH f hs os)[j]? = some (l.map (renD f)) := by
  have lt := (h.ix hj).1
  refine ⟨hs[os.idxOf j], by simp [lt], ?_⟩
  unfold calH
  rw [List.getElem?_map, List.getElem?_range (by rw [h.len]; exact hj)]
  show some ((hs.getD (os.idxOf j) []).map (renD f)) = _
  rw [List.getD_eq_getElem?_getD, List.getElem?_eq_getElem lt]
  rfl
theorem calH_mem {f : Str → Str} {hs : List (List PyData)} (h : Od hs.length os) {l : List PyData} (hl : l ∈ calH f hs os) : ∃ l0 ∈ hs, l = l0.map (renD f) := by
  obtain ⟨j, hj, rfl⟩ := List.mem_map.mp hl
  rw [List.mem_range, h.len] at hj
  have lt := (h.ix hj).1
  exact ⟨_, List.getElem_mem lt, by rw [List.getD_eq_getElem?_getD, List.getElem?_eq_getElem lt]; rfl⟩
end
/-! ### names -/
structure Nw (bs news : List Str) : Prop where
  len : news.length = bs.length
  nd : news.Nodup
  nm : ∀ z ∈ news, nameB (.str z) = true ∧ short z = true
def nF (bs news : List Str) (b : Str) : Str := match nmGet (bs.zip (news.map .str)) b with
  | some (.str y) => y
  | _ => b
theorem nmGet_zip : ∀ {bs : List Str} {xs : List PyData} {i : Nat} {b : Str} {x : PyData}, bs.Nodup → bs[i]? = some b → xs[i]? = some x → nmGet (bs.zip xs) b = some x
  | [], _, _, _, _, _, h, _ => by simp at h
  | _ :: _, [], _, _, _, _, _, h => by simp at h
  | c :: bs, y :: xs, i, b, x, nd, h1, h2 => by
    rw [List.zip_cons_cons]
    unfold nmGet
    rw [List.find?_cons]
    obtain ⟨n1, n2⟩ := List.nodup_cons.mp nd
    cases i with
    | zero =>
      cases Option.some.inj h1
      cases Option.some.inj h2
      simp
    | succ i =>
      have h1 : bs[i]? = some b := by simpa using h1
      have h2 : xs[i]? = some x := by simpa using h2
      have ne : c ≠ b := fun e => n1 (e ▸ List.mem_of_getElem? h1)
      simp only [ne, decide_false]
      exact nmGet_zip n2 h1 h2
theorem nF_at {bs news : List Str} (nd : bs.Nodup) {i : Nat} {b y : Str} (h1 : bs[i]? = some b) (h2 : news[i]? = some y) : nmGet (bs.zip (news.map .str)) b = some (.str y) ∧ nF bs news b = y := by
  have e : nmGet (bs.zip (news.map .str)) b = some (.str y) := nmGet_zip nd h1 (by rw [List.getElem?_map, h2]; rfl)
  refine ⟨e, ?_⟩
  unfold nF
  rw [e]
theorem nF_mem {bs news : List Str} (nd : bs.Nodup) (hl : news.length = bs.length) {b : Str} (hb : b ∈ bs) : nmGet (bs.zip (news.map .str)) b = some (.str (nF bs news b)) ∧ nF bs news b ∈ news := by
  obtain ⟨i, hi⟩ := List.mem_iff_getElem?.mp hb
  have lt : i < news.length := by rw [hl]; exact (List.getElem?_eq_some_iff.mp hi).1
  obtain ⟨e1, e2⟩ := nF_at nd hi (show news[i]? = some news[i] by simp [lt])
  rw [e2]
  exact ⟨e1, List.getElem_mem lt⟩
theorem nF_back {bs news : List Str} (nd : bs.Nodup) (nd2 : news.Nodup) (hl : news.length = bs.length) {b : Str} (hb : b ∈ bs) : nF news bs (nF bs news b) = b := by
  obtain ⟨i, hi⟩ := List.mem_iff_getElem?.mp hb
  have lt : i < news.length := by rw [hl]; exact (List.getElem?_eq_some_iff.mp hi).1
  have hy : news[i]? = some news[i] := by simp [lt]
  rw [(nF_at nd hi hy).2]
  exact (nF_at nd2 hy hi).2
theorem nF_map {bs news : List Str} (nd : bs.Nodup) (hl : news.length = bs.length) : bs.map (nF bs news) = news := by
  refine List.ext_getElem? fun i => ?_
  rw [List.getElem?_map]
  by_cases lt : i < bs.length
  · have h1 : bs[i]? = some bs[i] := by simp [lt]
    have lt2 : i < news.length := by omega
    have h2 : news[i]? = some news[i] := by simp [lt2]
    rw [h1, h2]
    exact congrArg some (nF_at nd h1 h2).2
  · rw [List.getElem?_eq_none (by omega), List.getElem?_eq_none (by omega)]
    rfl
theorem nF_self {bs : List Str} (nd : bs.Nodup) {b : Str} (hb : b ∈ bs) : nF bs bs b = b := by
  obtain ⟨i, hi⟩ := List.mem_iff_getElem?.mp hb
  exact (nF_at nd hi hi).2
/-- names of the names of a list, in another list of it -/
theorem nF_over {zs : List Str} {g : Str → Str} (nd : zs.Nodup) {z : Str} (hz : z ∈ zs) : nF zs (zs.map g) z = g z := by
  obtain ⟨i, hi⟩ := List.mem_iff_getElem?.mp hz
  exact (nF_at nd hi (by rw [List.getElem?_map, hi]; rfl)).2
section
variable {bs : List Str} {hs : List (List PyData)} {os : List Nat} {news zs : List Str}
/-- the program called otherwise is one -/
theorem Pv.cal (h : Pv bs hs) (ho : Od hs.length os) (hn : Nw bs news) (hp : zs.Perm news) (hu : sortedS zs = true) : Pv zs (calH (nF bs news) hs os) := by
  have hm : ∀ b ∈ bs, nF bs news b ∈ zs ∧ short (nF bs news b) = true := fun b hb => by
    have m := (nF_mem h.nd hn.len hb).2
    exact ⟨hp.mem_iff.mpr m, (hn.nm _ m).2⟩
  refine ⟨by rw [hp.length_eq, hn.len]; exact h.b1, fun z hz => hn.nm z (hp.mem_iff.mp hz), hp.nodup_iff.mpr hn.nd, hu, by rw [calH_len, ho.len]; exact h.h4, fun l hl => ?_, fun l hl d hd => ?_⟩
  · obtain ⟨l0, hl0, rfl⟩ := calH_mem ho hl
    rw [List.length_map]
    exact h.few l0 hl0
  · obtain ⟨l0, hl0, rfl⟩ := calH_mem ho hl
    obtain ⟨d0, hd0, rfl⟩ := List.mem_map.mp hd
    exact ren_gd hm (h.gd l0 hl0 d0 hd0)
theorem cal_id (h : Pv bs hs) : calH (nF bs bs) hs (List.range hs.length) = hs := by
  have ho : Od hs.length (List.range hs.length) := ⟨List.Perm.refl _⟩
  refine List.ext_getElem? fun j => ?_
  by_cases lt : j < hs.length
  · obtain ⟨l, h1, h2⟩ := calH_at (f := nF bs bs) ho lt
    have e : (List.range hs.length).idxOf j = j := ho.ixk (List.getElem?_range lt)
    rw [e] at h1
    rw [h2, h1]
    refine congrArg some ?_
    have hl := List.mem_of_getElem? h1
    exact (List.map_congr_left fun d hd => ren_id (fun b hb => nF_self h.nd hb) (h.gd l hl d hd)).trans (List.map_id' l)
  · rw [List.getElem?_eq_none (by rw [calH_len, List.length_range]; omega), List.getElem?_eq_none (by omega)]
theorem cal_back (h : Pv bs hs) (ho : Od hs.length os) (hn : Nw bs news) (hp : zs.Perm news) : calH (nF zs (zs.map (nF news bs))) (calH (nF bs news) hs os) (invO os) = hs := by
  have hlen : (calH (nF bs news) hs os).length = hs.length := by rw [calH_len, ho.len]
  have hi : Od (calH (nF bs news) hs os).length (invO os) := by rw [hlen]; exact ho.inv
  refine List.ext_getElem? fun j => ?_
  by_cases lt : j < hs.length
  · obtain ⟨l, h1, h2⟩ := calH_at (f := nF zs (zs.map (nF news bs))) hi (by rw [hlen]; exact lt)
    have lt2 : j < os.length := by rw [ho.len]; exact lt
    have ej : os[j]? = some os[j] := by simp [lt2]
    have lo : os[j] < hs.length := ho.mem.mp (List.getElem_mem lt2)
    have e1 : (invO os).idxOf j = os[j] := hi.ixk (by rw [ho.inv_at lo, ho.ixk ej])
    rw [e1] at h1
    obtain ⟨l0, g1, g2⟩ := calH_at (f := nF bs news) ho lo
    rw [ho.ixk ej] at g1
    rw [h1] at g2
    cases Option.some.inj g2
    rw [h2, g1]
    refine congrArg some ?_
    rw [List.map_map]
    have hl := List.mem_of_getElem? g1
    refine (List.map_congr_left fun d hd => ?_).trans (List.map_id' l0)
    exact ren_back (fun b hb => by
      have m := (nF_mem h.nd hn.len hb).2
      rw [nF_over (hp.nodup_iff.mpr hn.nd) (hp.mem_iff.mpr m)]
      exact nF_back h.nd hn.nd hn.len hb) (h.gd l0 hl d hd)
  · rw [List.getElem?_eq_none (by rw [calH_len]; unfold invO; rw [List.length_map, List.length_range, ho.len]; omega), List.getElem?_eq_none (by omega)]
end
end K61


namespace Kp
open PySem PySem.Spec PyProof.Rows L2
section
variable {X : Cx} {w0 : Wl} {ss : SS} {st : Store} {pos : Pos}
/-- x, y = e, a tuple of the store -/
theorem m_unp2 (i j : Nat) {tg e : Expr} {N : MN} (hg : PG X tg (gTup X.K 2 (gCons (gName i) (gCons (gName j) gNil))))
    (h : ME X w0 e st ss fun st' a => ∃ t a1 a2, a = .at_ t ∧ (t, Ck.tup, [a1, a2]) ∈ st' ∧ N.nx st' ((ss.set i (some a1)).set j (some a2)))
    (h1 : swapsWithSole [tg] e pos.line X.env = pure false := by rfl) (h2 : swappedStores [tg] e X.env = pure none := by rfl) (h3 : (assignEach [tg] X.env).map (·.2) = [assign tg X.env] := by rfl) : MS X w0 (.Assign [tg] e pos) st ss N :=
  PS.imp (ps_asg h hg h1 h2 h3) fun D σ H ⟨w, ew, hs, d⟩ => ⟨w, ew, hs, fun v a st' w1 e1 hs1 hv hk => by
    obtain ⟨t, a1, a2, rfl, m, hn⟩ := hk
    cases hv
    obtain ⟨_, hp, vs, g1, _, g3⟩ := hs1.so.key m
    cases g3 with
    | cons b1 g3 =>
      cases g3 with
      | cons b2 g3 =>
        cases g3
        have hp : (a1.plain && (a2.plain && true)) = true := hp
        rw [Bool.and_eq_true, Bool.and_eq_true] at hp
        have st1 := (hs1.set i hp.1 b1).set j hp.2.1 b2
        exact ⟨_, _, rfl, .inl (.inl g1), rfl, _, _, rfl, _, _, rfl, rfl, d.nx _ _ st' w1 e1 st1 hn⟩⟩
end
/-! ### slices up to a place, and behind it -/
theorem cut_take {ds : List PyData} {p : Nat} (h : p ≤ ds.length) : cutD ds none (some (p : Int)) = ds.take p := by
  unfold cutD
  rw [HT.sIx_none, HT.sIx_nat]
  rw [List.drop_zero, Nat.sub_zero, Nat.min_eq_left h]
theorem cut_drop {ds : List PyData} {p : Nat} (h : p ≤ ds.length) : cutD ds (some (p : Int)) none = ds.drop p := by
  unfold cutD
  rw [HT.sIx_nat, HT.sIx_none, Nat.min_eq_left h]
  rw [List.take_of_length_le]
  rw [List.length_drop]
  omega
end Kp
namespace Kp
open PySem PySem.Spec PyProof.Rows L2
section
variable {X : Cx} {w0 : Wl} {ss : SS} {a b : Expr} {pos : Pos}
/-- [..] * n, a new list -/
theorem kn_rep {R : List PyData → Prop} (h : KE X w0 a ss fun x => onList x fun d => KE X w0 b ss fun y => onInt y fun k => -(2 ^ 63) ≤ k ∧ k < 2 ^ 63 ∧ d.length * k.toNat ≤ 100000 ∧ R (List.replicate k.toNat d).flatten) : KN X w0 (.BinOp a .Mult b pos) ss R :=
  PE.imp (pe_op op_rep h (pe_an (w0 := w0) (ss := ss))) fun σ H Q ⟨w, ew, hs, q⟩ => ⟨w, ew, hs, fun v x w1 l1 hv hk => by
    have hk : onList x fun d => KE X w0 b ss fun y => onInt y fun k => -(2 ^ 63) ≤ k ∧ k < 2 ^ 63 ∧ d.length * k.toNat ≤ 100000 ∧ R (List.replicate k.toNat d).flatten := hk
    unfold onList at hk
    split at hk
    · refine ⟨_, hk, w1, rfl, hs.mono l1, fun v2 y w2 l2 hv2 hy => ?_⟩
      have hv := hv.mono l2
      obtain ⟨k, rfl, b1, b2, hz, hr⟩ := hy.of
      cases hv2
      cases hv with
      | lst h1 d1 => exact ⟨_, _, _, rfl, rfl, w2.sub _ _ h1, b1, b2, sz (by rw [d1.length]; exact hz), fun p hp => q p _ _ (w2.own p (.lst _) (w2.gfree hp)) (l1.trans (l2.trans (Le.own hp))) (exFree (l1.trans l2).h hp) upd_same (w2.gfree hp) ((d1.rep _).mono (Le.own hp).g) hr⟩
    · exact hk.elim⟩
end
end Kp


namespace K61
open PySem PySem.Spec PyProof.Rows L2 Kp
abbrev sIsOrder : Stmt := top 11
abbrev sAreNames : Stmt := top 30
abbrev sOlds : Stmt := top 31
abbrev sCal : Stmt := top 32
theorem natD_len (ns : List Nat) : (natD ns).length = ns.length := by unfold natD; rw [List.length_map]
theorem natD_at {ns : List Nat} {i : Nat} {d : PyData} (h : (natD ns)[i]? = some d) : ∃ n, ns[i]? = some n ∧ d = .int (n : Int) := by
  unfold natD at h
  rw [List.getElem?_map] at h
  cases q : ns[i]? with
  | none => rw [q] at h; cases h
  | some n => rw [q] at h; exact ⟨n, rfl, (Option.some.inj h).symm⟩
theorem nat_cm {ns : List Nat} (h : ns.length ≤ 20) (hs : ∀ n ∈ ns, n ≤ 100) : Cm (.list (natD ns)) := by
  have q : ∀ d ∈ natD ns, sm 0 d = true ∧ pureD d = true := fun d hd => by
    obtain ⟨n, hn, rfl⟩ := List.mem_map.mp hd
    exact ⟨sm_int (by omega) (by have := hs n hn; omega), rfl⟩
  exact Cm.of (n := 1) (by decide) (lst_sm (by rw [natD_len]; exact h) fun d hd => (q d hd).1) (pureA_of fun d hd => (q d hd).2)
theorem Od.cm {n : Nat} {os : List Nat} (h : Od n os) (hn : n ≤ 4) : Cm (.list (natD os)) := nat_cm (by rw [h.len]; omega) fun k hk => by have := h.mem.mp hk; omega
def cOrdT : List AV → (AV → Prop) → Prop := fun as R => ∃ (n : Nat) (os : List Nat), as = [.dat (.list (natD os)), .dat (.int (n : Int))] ∧ Od n os ∧ n ≤ 4 ∧ R (.dat (.bool true))
def cNmT : List AV → (AV → Prop) → Prop := fun as R => ∃ (n : Nat) (news : List Str), as = [.dat (.list (news.map .str)), .dat (.int (n : Int))] ∧ news.length = n ∧ news.Nodup ∧ (∀ z ∈ news, nameB (.str z) = true ∧ short z = true) ∧ n ≤ 4 ∧ R (.dat (.bool true))
def cOlds : List AV → (AV → Prop) → Prop := fun as R => ∃ (n : Nat) (os : List Nat), as = [.dat (.list (natD os))] ∧ Od n os ∧ n ≤ 4 ∧ R (.dat (.list (natD (invO os))))
section
variable {base : Heap} {K : PySem.W.Frag} {w : World} {P : Program} {mg : Str → Option Value}
abbrev nOrd : List Str := ["thing", "many", "hand"]
theorem scOrd : FnScope nOrd ["thing", "many"] (defScope sIsOrder) := ⟨rfl, rfl, rfl, by decide +kernel, rfl, by decide +kernel, by decide +kernel⟩
theorem d_order (B : Blt mg) (D1 : Dn P w K mg base "is_list" 1 cIsList) (D2 : Dn P w K mg base "is_whole" 1 cWhole) (F : Fn0 K mg "is_order" sIsOrder ["thing", "many"]) : Dn P w K mg base "is_order" 2 cOrdT := by
  refine dn F scOrd (fun as R ⟨_, _, e, _⟩ => by subst e; rfl) fun f cdv A outer s H E w0 as R hr hC => ?_
  obtain ⟨n, os, rfl, ho, hn, hR⟩ := hC
  show KSs _ _ _ [some (.dat (.list (natD os))), some (.dat (.int (n : Int))), none] _
  have hl : (natD os).length = n := by rw [natD_len, ho.len]
  refine ks_one (ks_ret (k_and (k_cd D1 hr (by decide) rfl (ka_cons (k_var 0 rfl rfl (ka_cons (k_var 1 rfl rfl (ka_cons (k_var 1 rfl rfl (ka_nil ⟨rfl, _, _, _, rfl, ?_⟩))))))))))
  show onBool (.dat (.bool (decide ((n : Int) ≤ ((natD os).length : Int)) && decide (((natD os).length : Int) ≤ (n : Int))))) _
  rw [hl, decide_eq_true (Int.le_refl _)]
  refine k_and (k_cB (dl_all rfl) rfl B.all b_all (ka_cons (k_ofN (kn_lc (own := [("hand", 2)]) (g := gName 2) rfl scOrd.nd (blkOk_by (N := nOrd) (sc := defScope sIsOrder) (by decide +kernel)) (tgok1 2) (fun _ _ _ _ _ => pg_name (i := 2) scOrd.nd rfl (Or.inl rfl)) (ki_list (k_var 0 rfl rfl ?_))))))
  refine ⟨by rw [hl]; omega, fun i es => es = (List.replicate i true).map .bool, rfl, fun i d acc hd hp => ?_, fun es hes => ?_⟩
  · subst hp
    obtain ⟨m, hm, rfl⟩ := natD_at hd
    refine fun _ _ _ _ _ => k_cd D2 hr (by decide) rfl (ka_cons (k_var 2 rfl rfl (ka_nil ⟨rfl, _, rfl, ?_⟩)))
    show _ = _
    rw [List.replicate_succ', List.map_append]
    rfl
  subst hes
  refine ka_nil ⟨_, rfl, ?_⟩
  rw [show (List.replicate (natD os).length true).all id = true from List.all_eq_true.mpr fun b hb => (List.mem_replicate.mp hb).2]
  refine k_one (k_cm (dc_eq hr.units) (k_cB dl_sortedI rfl B.sorted b_sorted (ka_cons (k_var 0 rfl rfl (ka_nil ⟨os.map fun (n : Nat) => (n : Int), natD_ints os, by rw [List.length_map, ho.len]; omega, fun ys hp hs => ?_⟩)))))
  refine k_ofN (kn_rng rfl rfl B.list rfl B.range (k_var 1 rfl rfl ?_))
  refine ⟨by omega, by omega, ?_⟩
  have e : ys.map PyData.int = natD (List.range n) := by
    rw [natD_ints]
    refine congrArg _ (le_sorted_one hs ?_ (hp.trans (ho.perm.map _)))
    rw [List.pairwise_map]
    exact List.Pairwise.imp (fun {a b} q => by omega) List.pairwise_lt_range
  rw [range_natD, Int.toNat_natCast, e]
  have ho2 : Od n (List.range n) := ⟨List.Perm.refl _⟩
  refine @Cm.eqS _ _ _ (Classical.propDecidable _) (ho2.cm hn) (ho2.cm hn) ?_
  simp only [decide_true]
  exact hR
abbrev nAre : List Str := ["thing", "many", "name"]
theorem scAre : FnScope nAre ["thing", "many"] (defScope sAreNames) := ⟨rfl, rfl, rfl, by decide +kernel, rfl, by decide +kernel, by decide +kernel⟩
theorem d_arenames (B : Blt mg) (hset : mg "set" = none) (D1 : Dn P w K mg base "is_list" 1 cIsList) (D2 : Dn P w K mg base "is_name" 1 cName) (F : Fn0 K mg "_are_names" sAreNames ["thing", "many"]) : Dn P w K mg base "_are_names" 2 cNmT := by
  refine dn F scAre (fun as R ⟨_, _, e, _⟩ => by subst e; rfl) fun f cdv A outer s H E w0 as R hr hC => ?_
  obtain ⟨n, news, rfl, hl0, hnd, hnm, hn, hR⟩ := hC
  show KSs _ _ _ [some (.dat (.list (news.map .str))), some (.dat (.int (n : Int))), none] _
  have hl : (news.map PyData.str).length = n := by rw [List.length_map, hl0]
  refine ks_one (ks_ret (k_and (k_cd D1 hr (by decide) rfl (ka_cons (k_var 0 rfl rfl (ka_cons (k_var 1 rfl rfl (ka_cons (k_var 1 rfl rfl (ka_nil ⟨rfl, _, _, _, rfl, ?_⟩))))))))))
  show onBool (.dat (.bool (decide ((n : Int) ≤ ((news.map PyData.str).length : Int)) && decide (((news.map PyData.str).length : Int) ≤ (n : Int))))) _
  rw [hl, decide_eq_true (Int.le_refl _)]
  refine k_and (k_cB (dl_all rfl) rfl B.all b_all (ka_cons (k_ofN (kn_lc (own := [("name", 2)]) (g := gName 2) rfl scAre.nd (blkOk_by (N := nAre) (sc := defScope sAreNames) (by decide +kernel)) (tgok1 2) (fun _ _ _ _ _ => pg_name (i := 2) scAre.nd rfl (Or.inl rfl)) (ki_list (k_var 0 rfl rfl ?_))))))
  refine ⟨by rw [hl]; omega, fun i es => es = (List.replicate i true).map .bool, rfl, fun i d acc hd hp => ?_, fun es hes => ?_⟩
  · subst hp
    obtain ⟨z, hz, rfl⟩ := List.mem_map.mp (List.mem_of_getElem? hd)
    refine fun _ _ _ _ _ => k_cd D2 hr (by decide) rfl (ka_cons (k_var 2 rfl rfl (ka_nil ⟨rfl, _, rfl, okL_sm (str_sm (n := 0) (hnm z hz).2), ?_⟩)))
    show _ = _
    rw [(hnm z hz).1, List.replicate_succ', List.map_append]
    rfl
  subst hes
  refine ka_nil ⟨_, rfl, ?_⟩
  rw [show (List.replicate (news.map PyData.str).length true).all id = true from List.all_eq_true.mpr fun b hb => (List.mem_replicate.mp hb).2]
  refine k_one (k_cm dc_seq (k_lenSetS rfl rfl B.len rfl hset (k_var 0 rfl rfl ⟨news, rfl, by omega, fun ks kn km => ?_⟩)))
  refine k_var 1 rfl rfl ?_
  have e : ks.length = n := by
    rw [← hl0]
    exact ((List.perm_ext_iff_of_nodup kn hnd).mpr km).length_eq
  show R (.dat (.bool (decide ((ks.length : Int) = (n : Int)))))
  rw [e, decide_eq_true rfl]
  exact hR
abbrev nOlds : List Str := ["order", "hand", "_"]
theorem scOlds : FnScope nOlds ["order"] (defScope sOlds) := ⟨rfl, rfl, rfl, by decide +kernel, rfl, by decide +kernel, by decide +kernel⟩
theorem d_olds (B : Blt mg) (he : mg "enumerate" = none) (F : Fn0 K mg "_olds" sOlds ["order"]) : Dn P w K mg base "_olds" 1 cOlds := by
  refine dn F scOlds (fun as R ⟨_, _, e, _⟩ => by subst e; rfl) fun f cdv A outer s H E w0 as R hr hC => ?_
  obtain ⟨n, os, rfl, ho, hn, hR⟩ := hC
  show KSs _ _ _ [some (.dat (.list (natD os))), none, none] _
  refine ks_one (ks_ret (k_ofN (kn_lc (own := [("hand", 1), ("_", 2)]) rfl scOlds.nd (blkOk_by (N := nOlds) (sc := defScope sOlds) (by decide +kernel)) (tgok2 1 2 (by decide)) (fun _ _ _ _ _ => pg_tup rfl (pgs_cons (pg_name (i := 1) scOlds.nd rfl (Or.inl rfl)) (pgs_cons (pg_name (i := 2) scOlds.nd rfl (Or.inl rfl)) pgs_nil))) (ki_enum rfl he (k_var 0 rfl rfl ?_)))))
  have cm := ho.cm hn
  refine ⟨by rw [enumD_len, natD_len, ho.len]; omega, fun i es => es = natD ((List.range i).map fun j => os.idxOf j), rfl, fun i d acc hd hp => ?_, fun es hes => ?_⟩
  · subst hp
    obtain ⟨x, hx, rfl⟩ := enumD_at hd
    have hi : i < n := by
      have := (List.getElem?_eq_some_iff.mp hx).1
      rw [natD_len, ho.len] at this
      exact this
    obtain ⟨h1, h2⟩ := ho.ix hi
    refine fun _ _ _ _ _ => k_index hr.u65 (k_var 0 rfl rfl ⟨_, rfl, k_var 1 rfl rfl ⟨_, rfl, cm.noD, rfl, cm.2, (Cm.int _).2, os.idxOf i, .int (i : Int), by unfold natD; rw [List.getElem?_map, h2]; rfl, eqv_self rfl, fun m z' hm hz => ?_, ?_⟩⟩)
    · obtain ⟨k, hk, rfl⟩ := natD_at hz
      have ne : k ≠ i := fun e => by
        subst e
        have := ho.ixk hk
        omega
      refine Bool.eq_false_iff.mpr fun q => ne ?_
      have q := (eqv_pure (d := .int (k : Int)) (e := .int (i : Int)) rfl rfl).1 q
      have q : (k : Int) = (i : Int) := PyData.int.inj q
      omega
    · show _ = _
      rw [List.range_succ, List.map_append]
      unfold natD
      rw [List.map_append]
      rfl
  · subst hes
    rw [enumD_len, natD_len]
    exact hR
end
end K61


namespace Kp
open PySem PySem.Spec PyProof.Rows L2
/-! ### own errors over any built-in class, raised -/
section
variable {X : Cx} {w0 : Wl} {ss : SS}
theorem pmk_oxg {CX : CXT} {x : Str} {C fI : Addr} {k : Nat} {fd : FuncData} {ps : List Str} {sp : Sp} {B nI iI : String} {bm : List Value} {p pos : Pos} {e : Expr} {es : List Expr} {ta : TA} (T : OxG X.K C B nI iI bm) (exC : PySem.W.subIn X.K (.ref C) (.type "BaseException") = some true) (tyC : PySem.W.typeIn X.K (.ref C) = some (.type "type"))
    (iC : PySem.W.findIn X.K (.ref C) "__init__" = some (some (.ref fI))) (tI : PySem.W.typeIn X.K (.ref fI) = some (.type "function")) (F1 : FnOk X.prog X.w X.K X.mg X.base CX k fI fd ps sp) (hr : Room (k + 1) X.A) (hb : Binds X.K fd ps []) (hx : Passes CX X (fun _ _ _ => False)) (hg : Gl X x) (hm : X.mg x = some (.ref C)) (ha : PA X (e :: es) ta)
    (hdb : (x == ("__debug__" : Str)) = false := by decide) (he : starEach (e :: es) X.env = (false, eval e X.env) :: starEach es X.env := by rfl) (hpl : (backTo pos (starEach es X.env)).any (·.1) = false := by rfl) :
    PMk X (.Call (.Name x p) (e :: es) [] pos) (tMkO C sp [] ta) := by
  intro pins s0 τ H Q I hh
  refine wpAny_Call_Name_kw (ld_glob I hg hm ?_ hdb)
  refine PySem.W.callWith_K (h₀ := X.base) I.ok.mod.kin T.k (thn (ha.run pos pins s0 τ H _ I hh) fun us s1 ⟨vs, H1, I1, r1, hz, q1⟩ => ⟨I1.kIn, ?_⟩) he hpl
  show wpAny _ _ (call (.ref C) us) _ _ _
  obtain ⟨m0, g0, d0, t0, o0⟩ := s1
  obtain ⟨_, _, _, _, bm2, _, _, _, _, _, _, _, _, _, _, _, hC, hT⟩ := PySem.W.excInit_of I1.kIn T.i
  have le1 : m0.objs.size ≤ m0.objs.size + 1 := Nat.le_succ _
  have new : H1 (m0.objs.size + 1) = none := I1.hok.fresh le1
  have want := q1 (m0.objs.size + 1) new
  have old : ∀ b o, m0.get? b = some o → ((m0.push (PySem.W.kdv_tup us)).push (HandSPX.excO C m0.objs.size)).get? b = some o := fun b o z => Heap.get?_push_of_some _ (Heap.get?_push_of_some _ z)
  have at1 : ((m0.push (PySem.W.kdv_tup us)).push (HandSPX.excO C m0.objs.size)).get? (m0.objs.size + 1) = some (HandSPX.excO C m0.objs.size) := by heap_get
  have J : Inv X pins τ (upd H1 (m0.objs.size + 1) (exo (m0.objs.size + 1) C none)) ⟨(m0.push (PySem.W.kdv_tup us)).push (HandSPX.excO C m0.objs.size), g0, d0, t0, o0⟩ :=
    I1.laid (t' := t0) (a := m0.objs.size + 1) (o := exo (m0.objs.size + 1) C none) old le1 (exo_ok at1)
  have rr : Vals (V.ref (m0.objs.size + 1) :: (vs ++ [])) (Value.ref (m0.objs.size + 1) :: (us ++ [])) := .cons rfl (r1.append .nil)
  have ln : (Value.ref (m0.objs.size + 1) :: us ++ []).length = ps.length := by
    have z := rr.length
    rw [F1.len _ _ _ _ want] at z
    exact z.symm
  have few : us.length ≤ sizeLine := by
    rw [← r1.length, sizeLine_eq]
    omega
  have bd := hb ⟨(m0.push (PySem.W.kdv_tup us)).push (HandSPX.excO C m0.objs.size), g0, d0, t0, o0⟩ (Value.ref (m0.objs.size + 1) :: us) J.kIn ln
  refine wpAny_call (HandSPX.call_own T.F hT hC (PySem.W.looks_findIn I1.kIn iC) (fun self => PySem.W.bind_fn I1.kIn self tI) few
    (codeAny_mono (F1.run _ X.stack _ _ ⟨Value.ref (m0.objs.size + 1) :: us, []⟩ (Value.ref (m0.objs.size + 1) :: (us ++ [])) _ _ (fun _ _ _ => False) (hr.make C us []) (J.env0.make C us []) (show BindsTo _ fd _ (ps.zip (Value.ref (m0.objs.size + 1) :: (us ++ []))) from bd) rr want) fun r s' hq' => ?_))
  match r, hq' with
  | .error er, hq' => exact hx pins τ _ _ er s' J hq'
  | .ok .next, hq' => exact hq'.elim
  | .ok .brk, hq' => exact hq'.elim
  | .ok .cont, hq' => exact hq'.elim
  | .ok (.ret u), ⟨v, H2, os2, bare2, un2, hok2, rv, ev, d, fs, ea, ed, hd1, q2⟩ =>
    subst ev
    obtain ⟨m2, g2, d2, t2, o2⟩ := s'
    exact ⟨rv, mk_end (raises_own exC tyC) I1 le1 old un2 hok2 os2 bare2 ea ed hd1 q2⟩
theorem ks_raiseG {x : Str} {C fI : Addr} {k : Nat} {fd : FuncData} {ps ns : List Str} {B nI iI : String} {bm : List Value} {e : Expr} {es : List Expr} {p pos pos2 : Pos} {RX : Addr → List (Str × PyData) → Prop} {E : XK} {N : AN} (hc : X.calm = true) (tk : Takes X fun cls d _ H => E cls d H) (T : OxG X.K C B nI iI bm) (exC : PySem.W.subIn X.K (.ref C) (.type "BaseException") = some true) (tyC : PySem.W.typeIn X.K (.ref C) = some (.type "type"))
    (iC : PySem.W.findIn X.K (.ref C) "__init__" = some (some (.ref fI))) (tI : PySem.W.typeIn X.K (.ref fI) = some (.type "function")) (F1 : FnOk X.prog X.w X.K X.mg X.base CX0 k fI fd ps (spInit C ns)) (hr : Room (k + 1) X.A) (hb : Binds X.K fd ps []) (hg : Gl X x) (hm : X.mg x = some (.ref C)) (out : outS X.K w0 RX E)
    (h : KA X w0 (e :: es) ss fun as => onDats as fun ds => ds.length = ns.length ∧ ds.length ≤ 1000 ∧ RX C (ns.zip ds).reverse)
    (hdb : (x == ("__debug__" : Str)) = false := by decide) (he : starEach (e :: es) X.env = (false, eval e X.env) :: starEach es X.env := by rfl) (hpl : (backTo pos (starEach es X.env)).any (·.1) = false := by rfl) :
    KS X w0 (.Raise (some (.Call (.Name x p) (e :: es) [] pos)) none pos2) ss N :=
  PS.imp (L2.ps_raise hc tk (pmk_oxg T exC tyC iC tI F1 hr hb pass0 hg hm h hdb he hpl)) fun D σ H ⟨w, ew, hs, d⟩ => ⟨w, ew, hs, fun vs as w1 l1 hvs hk => by
    obtain ⟨ds, rfl, hl, hz, hx⟩ := hk.of
    have hd := AvA.dats hvs
    refine ⟨by rw [hd.length]; exact hz, fun a ha => ?_⟩
    rw [List.append_nil]
    refine ⟨a, vs, rfl, by rw [hd.length]; exact hl, upd_same, fun dx H' h1 h2 h3 h4 h5 => ?_⟩
    have h1' : w1.h dx = none := by
      rw [upd_ne h2] at h1
      exact h1
    refine ⟨rfl, dx, _, h3, h4, h1', ?_⟩
    have ex : Ex w1.h (upd (del H' a) dx (.xd (ns.zip vs).reverse)) := fun b o q => by
      have n1 : b ≠ a := ne_of_none q ha
      have n2 : b ≠ dx := ne_of_none q h1'
      rw [upd_ne n2, del_ne n1, h5 b n1 n2, upd_ne n1]
      exact q
    have le : Le w1 (w1.more _ ex) := Le.more ex
    exact out C dx _ _ (w1.more _ ex) ((hs.le.trans l1).trans le) (exFree (hs.le.trans l1).h h1') upd_same (w1.gfree h1') (FdA.zip ns hd).rev hx⟩
end
end Kp


namespace Kp
open PySem PySem.Spec PyProof.Rows L2
/-! ### try with a suite that looks at the error -/
theorem ErK.self {K : PySem.W.Frag} {mg : Str → Option Value} {x qual : Str} {fs : List Str} {tl : List Value} {st : Stmt} {ps : List Str} {C : Addr} (h : ErK K mg x qual fs tl st ps C) : PySem.W.exmOne K (.ref C) (.ref C) = some true := by
  refine PySem.W.exm_ref h.ex.hs h.ex.hd h.ty ?_
  obtain ⟨cd, h1, h2, h3⟩ := h.nm
  show PySem.W.mroIn K C (.ref C) = _
  unfold PySem.W.mroIn
  rw [h1, Option.bind_some, h3, if_neg (show ¬ (List.isEmpty (Value.ref C :: tl) = true) from Bool.false_ne_true), List.contains_cons, beq_self_eq_true]
  rfl
section
variable {X : Cx} {w0 : Wl} {ss : SS}
theorem call_isS {a D dd : Addr} {oe : Obj} {pn : List (Addr × Obj)} (C : ExcC X.K D) (hz : Zc (.ref D) (some dd) oe) (hf : ∃ vs, oe.data = .fields vs) : CallR (X.suite a ((a, oe) :: pn)) (.builtin "isinstance") fun xs H Q => ∃ (c : V) (cv : Value) (b : Bool) (fs : List (Str × V)), xs = [.ref a, c] ∧ H dd = some (.xd fs) ∧ (∀ u, RelV c u → u = cv) ∧ PySem.W.kitOne X.K (.ref D) cv = some b ∧ Q (.bl b) H := by
  intro p1 s1 σ1 H xs us Q I r h
  obtain ⟨c, cv, b, fs, rfl, hx, hcv, e, q⟩ := h
  cases r with
  | cons rx rr =>
    cases rr with
    | cons rt rr =>
      cases rr
      cases rx
      obtain rfl := hcv _ rt
      have hget := (I.pin (a, oe) (List.mem_append.mpr (.inl List.mem_cons_self))).1
      obtain ⟨vs, hv⟩ := hf
      obtain ⟨mA, ⟨ob, es, ep, e3, c3⟩, r3⟩ := (show ∃ mA, s1.heap.Ns1 dd mA ∧ ∀ f, RelO (fs.lookup f) (mA f) from I.hok dd _ hx)
      have J : PySem.W.InstAt s1.heap a oe D (some ob) := by
        obtain ⟨oc, odd, oda, osl⟩ := oe
        obtain ⟨h1, h2⟩ := hz
        dsimp only at h1 h2 hv
        subst h1 h2 hv
        exact ⟨hget, rfl, rfl, e3⟩
      exact PySem.W.kia_one (KpW.kit_exc C.hg C.hk C.hs C.hd C.ha C.hn C.ht C.hm) I.kIn J e (fun z => nomatch z) fun tk => ⟨.bl b, H, I.kept (t' := tk) fun _ _ z => z, rfl, q⟩
/-- isinstance(e, C), C an own class, in the suite -/
theorem k_isS {a D C dd : Addr} {oe : Obj} {pn : List (Addr × Obj)} {fs : List (Str × V)} {b : Bool} {e : Expr} {x : Str} {p p2 pos : Pos} {R : AV → Prop} (T : ExcC X.K D) (hz : Zc (.ref D) (some dd) oe) (hf : ∃ vs, oe.data = .fields vs) (hdd : w0.h dd = some (.xd fs)) (hg : Gl X "isinstance") (hm : X.mg "isinstance" = none) (hg2 : Gl X x) (hm2 : X.mg x = some (.ref C)) (hk : PySem.W.kitOne X.K (.ref D) (.ref C) = some b)
    (h : KE (X.suite a ((a, oe) :: pn)) w0 e ss fun r => r = .at_ a ∧ R (.dat (.bool b))) (hdb : (x == ("__debug__" : Str)) = false := by decide)
    (he : starEach [e, .Name x p2] X.env = (false, eval e X.env) :: starEach [.Name x p2] X.env := by rfl) (hpl : (backTo pos (starEach [.Name x p2] X.env)).any (·.1) = false := by rfl)
    (he2 : starEach [.Name x p2] X.env = (false, eval (.Name x p2) X.env) :: starEach [] X.env := by rfl) : KE (X.suite a ((a, oe) :: pn)) w0 (.Call (.Name "isinstance" p) [e, .Name x p2] [] pos) ss R :=
  PE.imp (pe_callB (X := X.suite a ((a, oe) :: pn)) (call_isS T hz hf) hg hm (by decide +kernel) (pa_cons h (pa_cons (pe_glob (X := X.suite a ((a, oe) :: pn)) hg2 hm2 (v := .ref C) rfl hdb) pa_nil he2) he) (by decide) (by decide) he hpl) fun σ H Q ⟨w, ew, hs, q⟩ => ⟨w, ew, hs, fun v r w1 l1 hv hkk => by
    obtain ⟨rfl, hr⟩ := hkk
    cases hv
    exact ⟨.ref C, .ref C, b, fs, rfl, l1.h _ _ (hs.le.h _ _ hdd), fun u r => by cases r; rfl, hk, q (.bl b) (.dat (.bool b)) w1 l1 (.bl b) hr⟩⟩
theorem k_isTS {a D dd : Addr} {T0 : String} {oe : Obj} {pn : List (Addr × Obj)} {fs : List (Str × V)} {b : Bool} {e : Expr} {x : Str} {p p2 pos : Pos} {R : AV → Prop} (T : ExcC X.K D) (hz : Zc (.ref D) (some dd) oe) (hf : ∃ vs, oe.data = .fields vs) (hdd : w0.h dd = some (.xd fs)) (hg : Gl X "isinstance") (hm : X.mg "isinstance" = none) (hg2 : Gl X x) (hm2 : X.mg x = none) (hv2 : bootBuiltins x = some (.type T0)) (hk : PySem.W.kitOne X.K (.ref D) (.type T0) = some b)
    (h : KE (X.suite a ((a, oe) :: pn)) w0 e ss fun r => r = .at_ a ∧ R (.dat (.bool b))) (hn : x ≠ "__name__" := by decide) (hdb : (x == ("__debug__" : Str)) = false := by decide)
    (he : starEach [e, .Name x p2] X.env = (false, eval e X.env) :: starEach [.Name x p2] X.env := by rfl) (hpl : (backTo pos (starEach [.Name x p2] X.env)).any (·.1) = false := by rfl)
    (he2 : starEach [.Name x p2] X.env = (false, eval (.Name x p2) X.env) :: starEach [] X.env := by rfl) : KE (X.suite a ((a, oe) :: pn)) w0 (.Call (.Name "isinstance" p) [e, .Name x p2] [] pos) ss R :=
  PE.imp (pe_callB (X := X.suite a ((a, oe) :: pn)) (call_isS T hz hf) hg hm (by decide +kernel) (pa_cons h (pa_cons (pe_bltn (X := X.suite a ((a, oe) :: pn)) hg2 hm2 hv2 (v := .ty T0) rfl hn hdb) pa_nil he2) he) (by decide) (by decide) he hpl) fun σ H Q ⟨w, ew, hs, q⟩ => ⟨w, ew, hs, fun v r w1 l1 hv hkk => by
    obtain ⟨rfl, hr⟩ := hkk
    cases hv
    exact ⟨.ty T0, .type T0, b, fs, rfl, l1.h _ _ (hs.le.h _ _ hdd), fun u r => by cases r; rfl, hk, q (.bl b) (.dat (.bool b)) w1 l1 (.bl b) hr⟩⟩
/-- e.f in the suite -/
theorem k_fldS {a C dd : Addr} {oe : Obj} {pn : List (Addr × Obj)} {fs : List (Str × V)} {ds : List (Str × PyData)} {d : PyData} {e : Expr} {pos : Pos} {n : Str} {R : AV → Prop} (T : XfC X.K C) (hno : PySem.W.findIn X.K (.ref C) n = some none) (hz : Zc (.ref C) (some dd) oe) (hf : ∃ vs, oe.data = .fields vs) (hdd : w0.h dd = some (.xd fs)) (hfd : FdA X.K w0.g fs ds) (hl : ds.lookup n = some d)
    (h : KE (X.suite a ((a, oe) :: pn)) w0 e ss fun r => r = .at_ a ∧ R (.dat d)) (hb : attributeBase e n X.env (eval e X.env) = eval e X.env := by rfl) : KE (X.suite a ((a, oe) :: pn)) w0 (.Attribute e n pos) ss R :=
  PE.imp (pe_xf T hno hz hf h hb) fun σ H Q ⟨w, ew, hs, q⟩ => ⟨w, ew, hs, fun v r w1 l1 hv hkk => by
    obtain ⟨rfl, hr⟩ := hkk
    cases hv
    obtain ⟨u, hu, hd⟩ := lookup_dd (hfd.mono (hs.le.g.trans l1.g)) hl
    exact ⟨rfl, rfl, dd, fs, u, rfl, l1.h _ _ (hs.le.h _ _ hdd), hu, q u (.dat d) w1 l1 hd hr⟩⟩
theorem ks_tryE {x n : Str} {c : Addr} {i : Nat} {body suite : List Stmt} {st0 : Stmt} {N : AN} {RX : Addr → List (Str × PyData) → Prop} {np pos pos' : Pos} (hs : X.stack = X.env :: X.outer) (hf : X.env.frame = some X.env.locals) (hN : X.N.Nodup) (hi : X.N[i]? = some n) (hln : X.env.kindOf n = some .local)
    (hc : Names X x (.ref c)) (hl : i < ss.length) (nb : noBuf ss)
    (hb : ∀ (w1 : Wl) (W : WX) (pn : List (Addr × Obj)) (xe : Value → Shared → Prop), Takes (X.tr pn xe) W → PassesOwn (model X.prog X.w) X.A X.env xe → outW X.K w1 ss RX W → KSs (X.tr pn xe) w1 body ss N)
    (hx : ∀ C ds, RX C ds → PySem.W.exmOne X.K (.ref C) (.ref c) = some true ∧ ∀ (a dd : Addr) (oe : Obj) (pn : List (Addr × Obj)) (fs : List (Str × V)) (w1 : Wl), Zc (.ref C) (some dd) oe → (∃ vs, oe.data = .fields vs) → w1.h dd = some (.xd fs) → FdA X.K w1.g fs ds →
      KSs (X.suite a ((a, oe) :: pn)) w1 (st0 :: suite) (ss.set i (some (.at_ a))) { nx := fun s => N.nx (s.set i none), rt := N.rt, bk := fun s => N.bk (s.set i none), ct := fun s => N.ct (s.set i none) }) :
    KS X w0 (.Try body [.ExceptHandler (some (.Name x np)) (some n) (st0 :: suite) pos'] [] [] pos) ss N := by
  refine PS.imp (ps_try_as (tb := fun W D σ H => (∃ w1 : Wl, outW X.K w1 ss RX W ∧ tsOf X.K w1 ss N D σ H))
    (ts := fun a cls d D σ H => ∃ (C dd : Addr) (fs : List (Str × V)) (ds : List (Str × PyData)) (w1 : Wl), cls = .ref C ∧ d = some dd ∧ RX C ds ∧ w1.h dd = some (.xd fs) ∧ FdA X.K w1.g fs ds ∧ tsOf X.K w1 (ss.set i (some (.at_ a))) { nx := fun s => N.nx (s.set i none), rt := N.rt, bk := fun s => N.bk (s.set i none), ct := fun s => N.ct (s.set i none) } D σ H)
    (Wout := fun _ _ _ _ => False) hs hf hN hi hln hc takes0
    (fun W pn xe tk po => ⟨fun pins s σ H D I ⟨w1, o, h⟩ => (hb w1 W pn xe tk po o).run pins s σ H D I h⟩)
    (fun a oe cls d pn hz hd => ⟨fun pins s σ H D I ⟨C, dd, fs, ds, w1, ec, ed, r, h1, h2, h⟩ => by
      subst ec
      subst ed
      exact ((hx C ds r).2 a dd oe pn fs w1 hz hd h1 h2).run pins s σ H D I h⟩)) fun D σ H ⟨w, ew, hsl, d⟩ => ?_
  refine ⟨w.bare, fun σ1 C dd fs ds w' hs1 h0 h1 h2 h3 r => ?_, w, ew, hsl.re nb, ⟨fun σ' ss' w' e h k => d.nx σ' ss' w' e (hsl.back h) k, fun v a w' e l h k => d.rt v a w' e (hsl.le.trans l.unbare) h k, fun σ' ss' w' e h k => d.bk σ' ss' w' e (hsl.back h) k, fun σ' ss' w' e h k => d.ct σ' ss' w' e (hsl.back h) k⟩⟩
  refine ⟨true, (hx C ds r).1, fun _ a ha => ?_, fun q => nomatch q⟩
  have hil : i < σ1.length := by rw [hs1.len]; exact hl
  refine ⟨C, dd, fs, ds, w'.bare, rfl, rfl, r, h1, h3, w', rfl, (hs1.re nb).set (a := .at_ a) i rfl rfl, ?_⟩
  have back : ∀ {σ2 : L2.St} {ss2 : SS} {w2 : Wl}, Sl X.K w'.bare w2 σ2 ss2 → Sl X.K w0 w2 (σ2.set i none) (ss2.set i none) := fun h => hsl.back (hs1.back (h.wipe [i]))
  have g1 : Ex w.g w'.g := hs1.le.g
  exact ⟨fun σ2 ss2 w2 e h k => d.nx _ _ w2 (g1.trans e) (back h) k, fun v b w2 e l h k => d.rt v b w2 (g1.trans e) (hsl.le.trans (hs1.le.unbare.trans l.unbare)) h k, fun σ2 ss2 w2 e h k => d.bk _ _ w2 (g1.trans e) (back h) k, fun σ2 ss2 w2 e h k => d.ct _ _ w2 (g1.trans e) (back h) k⟩
end
end Kp


namespace Kp
open PySem PySem.Spec PyProof.Rows L2
/-! ### own errors that keep nothing: raised, caught, looked at -/
section
variable {X : Cx} {w0 : Wl} {ss : SS}
theorem mk_end_no {pins : List (Addr × Obj)} {σ : L2.St} {H1 H2 : Hp} {Q : XK} {m0 m1 m2 : Heap} {g1 g2 : Array GenState} {d1 d2 : Drawn} {t1 t2 : Nat} {os1 os2 : OsState} {a C : Addr} (T : Raises X (.ref C)) (I1 : Inv X pins σ H1 ⟨m0, g1, d1, t1, os1⟩)
    (hnew : m0.objs.size ≤ a) (old : ∀ b o, m0.get? b = some o → m1.get? b = some o) (un2 : Un (frs X.stack) [] (upd H1 a (exo a C none)) H2 m1 m2) (hok2 : HOk X.prog X.w H2 m2) (eo : os2 = os1) (bare2 : AllBare g2)
    (ea : H2 a = some (exo a C none)) (q : Q (.ref C) none (del H2 a)) : MkP X pins σ Q (.ref a) ⟨m2, g2, d2, t2, os2⟩ := by
  obtain ⟨t0, at0⟩ := exo_at hok2 ea
  have gone : H1 a = none := I1.hok.fresh hnew
  obtain ⟨G, r1, r2⟩ := restrict m2 fun b => decide (b ≠ a)
  have same : ∀ b, b ≠ a → G.get? b = m2.get? b := fun b n => r1 b (decide_eq_true n)
  have noA : G.get? a = none := r2 a (by simp)
  have far : ∀ {b : Addr} {o : Obj}, m0.get? b = some o → b ≠ a := fun e => Nat.ne_of_lt (Nat.lt_of_lt_of_le (Heap.lt_size e) hnew)
  have fre : ∀ {b : Addr}, b ≠ a → H1 b = none → upd H1 a (exo a C none) b = none := fun n e => (upd_ne n).trans e
  have U : Un (frs X.stack) [] H1 (del H2 a) m0 G := {
    keep := fun b o e n f x => (same b (far e)).trans (un2.keep b o (old b o e) (fre (far e) n) f x)
    slot := fun b o e n f x => (un2.slot b o (old b o e) (fre (far e) n) f x).imp fun sl z => (same b (far e)).trans z
    free := fun b o e n x => (del_ne (far e)).trans (un2.free b o (old b o e) (fre (far e) n) x)
    there := fun b o e x => (un2.there b o (old b o e) x).imp fun o2 z => (same b (far e)).trans z
    tups := fun b xs z => (del_ne (ne_of_none z gone)).trans (un2.tups b xs ((upd_ne (ne_of_none z gone)).trans z))
    frzs := fun b o v z => (del_ne (ne_of_none z gone)).trans (un2.frzs b o v ((upd_ne (ne_of_none z gone)).trans z))
    tbls := fun b ps z => (un2.tbls b ps ((upd_ne (ne_of_none z gone)).trans z)).imp fun mo y => (del_ne (ne_of_none z gone)).trans y }
  have hok3 : HOk X.prog X.w (del H2 a) G := fun b o z => by
    have nb : b ≠ a := fun e => by
      rw [e, del_same] at z
      cases z
    rw [del_ne nb] at z
    refine (hok2 b o z).stay (fun c v hc y => (same c ?_).trans y) (fun c hc => (del_ne (at_ne ea hc exo_own)).trans hc) fun c xs hc => (del_ne (at_ne ea hc exo_tup)).trans hc
    exact hc.elim (fun e => e ▸ nb) fun e => at_ne ea e exo_own
  have J : Inv X pins σ (del H2 a) ⟨G, g2, d2, t2, os2⟩ := I1.call' (ch := []) eo U hok3 bare2 (fun b z => absurd z (by simp))
  refine ⟨a, _, _, ⟨G, g2, d2, t2, os2⟩, _, .ref C, none, rfl, J, fun b o z => ?_, noA, at0, ⟨rfl, rfl⟩, rfl, rfl, del_same, rfl, bare2, T, q⟩
  by_cases e : b = a
  · rw [e, noA] at z
    cases z
  · exact (same b e).symm.trans z
theorem pmk_no {x : Str} {C fI : Addr} {k : Nat} {fd : FuncData} {ps : List Str} {B nI iI : String} {bm : List Value} {p pos : Pos} (T : OxG X.K C B nI iI bm) (exC : PySem.W.subIn X.K (.ref C) (.type "BaseException") = some true) (tyC : PySem.W.typeIn X.K (.ref C) = some (.type "type"))
    (iC : PySem.W.findIn X.K (.ref C) "__init__" = some (some (.ref fI))) (tI : PySem.W.typeIn X.K (.ref fI) = some (.type "function")) (F1 : FnOk X.prog X.w X.K X.mg X.base CX0 k fI fd ps (spInit0 C)) (hr : Room (k + 1) X.A) (hb : Binds X.K fd ps []) (hg : Gl X x) (hm : X.mg x = some (.ref C))
    (hdb : (x == ("__debug__" : Str)) = false := by decide) :
    PMk X (.Call (.Name x p) [] [] pos) (fun σ H Q => ∀ a, H a = none → Q (.ref C) none (del (upd H a (exo a C none)) a)) := by
  intro pins s0 τ H Q I want
  refine wpAny_Call_Name_kw (ld_glob I hg hm ?_ hdb)
  refine PySem.W.callWith_K0 I.kIn T.k ?_
  obtain ⟨m0, g0, d0, t0, o0⟩ := s0
  obtain ⟨_, _, _, _, bm2, _, _, _, _, _, _, _, _, _, _, _, hC, hT⟩ := PySem.W.excInit_of I.kIn T.i
  have le1 : m0.objs.size ≤ m0.objs.size + 1 := Nat.le_succ _
  have new : H (m0.objs.size + 1) = none := I.hok.fresh le1
  have old : ∀ b o, m0.get? b = some o → ((m0.push (PySem.W.kdv_tup [])).push (HandSPX.excO C m0.objs.size)).get? b = some o := fun b o z => Heap.get?_push_of_some _ (Heap.get?_push_of_some _ z)
  have at1 : ((m0.push (PySem.W.kdv_tup [])).push (HandSPX.excO C m0.objs.size)).get? (m0.objs.size + 1) = some (HandSPX.excO C m0.objs.size) := by heap_get
  have J : Inv X pins τ (upd H (m0.objs.size + 1) (exo (m0.objs.size + 1) C none)) ⟨(m0.push (PySem.W.kdv_tup [])).push (HandSPX.excO C m0.objs.size), g0, d0, t0, o0⟩ :=
    I.laid (t' := t0) (a := m0.objs.size + 1) (o := exo (m0.objs.size + 1) C none) old le1 (exo_ok at1)
  have rr : Vals [V.ref (m0.objs.size + 1)] [Value.ref (m0.objs.size + 1)] := .cons rfl .nil
  have wish : spInit0 C [V.ref (m0.objs.size + 1)] (upd H (m0.objs.size + 1) (exo (m0.objs.size + 1) C none)) (fun v H2 => v = .non ∧ H2 = upd H (m0.objs.size + 1) (exo (m0.objs.size + 1) C none)) (fun _ _ _ => False) := ⟨_, rfl, upd_same, rfl, rfl⟩
  have ln : ([Value.ref (m0.objs.size + 1)] : List Value).length = ps.length := by
    have z := F1.len _ _ _ _ wish
    exact z
  have bd := hb ⟨(m0.push (PySem.W.kdv_tup [])).push (HandSPX.excO C m0.objs.size), g0, d0, t0, o0⟩ [Value.ref (m0.objs.size + 1)] J.kIn ln
  rw [List.append_nil] at bd
  refine wpAny_call (HandSPX.call_own T.F hT hC (PySem.W.looks_findIn I.kIn iC) (fun self => PySem.W.bind_fn I.kIn self tI) (Nat.zero_le _)
    (codeAny_mono (F1.run _ X.stack _ _ ⟨[Value.ref (m0.objs.size + 1)], []⟩ [Value.ref (m0.objs.size + 1)] _ _ (fun _ _ _ => False) (hr.make C [] []) (J.env0.make C [] []) bd rr wish) fun r s' hq' => ?_))
  match r, hq' with
  | .error er, hq' => exact hq'.elim
  | .ok .next, hq' => exact hq'.elim
  | .ok .brk, hq' => exact hq'.elim
  | .ok .cont, hq' => exact hq'.elim
  | .ok (.ret u), ⟨v, H2, os2, bare2, un2, hok2, rv, ev, eH⟩ =>
    subst ev
    subst eH
    obtain ⟨m2, g2, d2, t2, o2⟩ := s'
    exact ⟨rv, mk_end_no (raises_own exC tyC) I le1 old un2 hok2 os2 bare2 upd_same (want _ new)⟩
theorem del_upd {H : Hp} {a : Addr} {o : HO} (h : H a = none) : del (upd H a o) a = H := by
  funext b
  by_cases e : b = a
  · rw [e, del_same, h]
  · rw [del_ne e, upd_ne e]
/-- what is wanted where such an error leaves -/
def out0 (w0 : Wl) (C : Addr) (E : XK) : Prop := ∀ w', Le w0 w' → E (.ref C) none w'.h
theorem ks_raise0 {x : Str} {C fI : Addr} {k : Nat} {fd : FuncData} {ps : List Str} {B nI iI : String} {bm : List Value} {p pos pos2 : Pos} {E : XK} {N : AN} (hc : X.calm = true) (tk : Takes X fun cls d _ H => E cls d H) (T : OxG X.K C B nI iI bm) (exC : PySem.W.subIn X.K (.ref C) (.type "BaseException") = some true) (tyC : PySem.W.typeIn X.K (.ref C) = some (.type "type"))
    (iC : PySem.W.findIn X.K (.ref C) "__init__" = some (some (.ref fI))) (tI : PySem.W.typeIn X.K (.ref fI) = some (.type "function")) (F1 : FnOk X.prog X.w X.K X.mg X.base CX0 k fI fd ps (spInit0 C)) (hr : Room (k + 1) X.A) (hb : Binds X.K fd ps []) (hg : Gl X x) (hm : X.mg x = some (.ref C)) (out : out0 w0 C E)
    (hdb : (x == ("__debug__" : Str)) = false := by decide) : KS X w0 (.Raise (some (.Call (.Name x p) [] [] pos)) none pos2) ss N :=
  PS.imp (L2.ps_raise hc tk (pmk_no T exC tyC iC tI F1 hr hb hg hm hdb)) fun D σ H ⟨w, ew, hs, d⟩ a ha => by
    subst ew
    rw [del_upd ha]
    exact out w hs.le
/-- a def that leaves by such an error -/
def spX0 (K : PySem.W.Frag) (D : List AV → Addr → Prop) : Sp := fun vs H Q E => ∃ (w : Wl) (as : List AV) (C : Addr), w.h = H ∧ AvA K w vs as ∧ (as.all AV.plain = true ∧ D as C) ∧ out0 w C E
end
section
variable {base : Heap} {K : PySem.W.Frag} {w : World} {P : Program} {mg : Str → Option Value}
def DnX0 (P : Program) (w : World) (K : PySem.W.Frag) (mg : Str → Option Value) (base : Heap) (x : Str) (k : Nat) (D : List AV → Addr → Prop) : Prop :=
  ∃ (f : Addr) (fd : FuncData) (ps : List Str), FnOk P w K mg base (L2.CX P w) k f fd ps (spX0 K D) ∧ mg x = some (.ref f) ∧ PySem.W.keepIn K (.ref f) = true ∧ Binds K fd ps []
theorem dnX0 {x : Str} {sm : Stmt} {N ps : List Str} {k : Nat} {D : List AV → Addr → Prop} (F : Fn0 K mg x sm ps) (S : FnScope N ps (defScope sm)) (len : ∀ as C, D as C → as.length = ps.length)
    (hbody : ∀ (f : Addr) (cdv : Value) (A : Around) (outer : List Env) (s : Shared) (H : Hp) (E : XK) (w0 : Wl) (as : List AV) (C : Addr), Room k (A.deeper (envOfC x (defScope sm) s.heap.objs.size f cdv)) → D as C → out0 w0 C E →
      KSs (cxX P w K mg base N x (defScope sm) f cdv A outer s H E) w0 (defBody sm) (ss0 N.length as) { nx := fun _ => False, rt := fun _ => False }) : DnX0 P w K mg base x (k + 1) D := by
  obtain ⟨f, fd, Ff, hm, hb⟩ := F
  refine ⟨f, fd, ps, ?_, hm, Ff.kp, hb⟩
  refine Ff.okX S (fun vs H Q E ⟨w0, as, C, e, hv, hc, o⟩ => by rw [hv.length]; exact len as C hc.2) fun cdv A outer s H vs Q E hr ⟨w0, as, C, e, hv, hc, o⟩ => ?_
  exact ⟨_, hbody f cdv A outer s H E w0.bare as C hr hc.2 (fun w' l => o w' l.unbare), w0, e, Sl.start hv hc.1, ⟨fun _ _ _ _ _ h => h.elim, fun _ _ _ _ _ _ h => h.elim, fun _ _ _ _ _ h => h.elim, fun _ _ _ _ _ h => h.elim⟩⟩
end
section
variable {X : Cx} {w0 : Wl} {ss : SS}
def outW0 (K : PySem.W.Frag) (w0 : Wl) (ss : SS) (C : Addr) (W : WX) : Prop := ∀ (σ : L2.St) (w' : Wl), Sl K w0 w' σ ss → W (.ref C) none σ w'.h
/-- such a def, called within a try -/
theorem k_callW0 {D : List AV → Addr → Prop} {j k : Nat} {C : Addr} {x : Str} {p pos : Pos} {e : Expr} {es : List Expr} {R : AV → Prop} {W : WX} (Dn0 : DnX0 X.prog X.w X.K X.mg X.base x k D) (hr : Room j X.A) (hk : k ≤ j) (hg : Gl X x) (tk : Takes X W) (out : outW0 X.K w0 ss C W)
    (h : KA X w0 (e :: es) ss fun as => as.all AV.plain = true ∧ D as C) (hdb : (x == ("__debug__" : Str)) = false := by decide) (he : starEach (e :: es) X.env = (false, eval e X.env) :: starEach es X.env := by rfl) (hpl : (backTo pos (starEach es X.env)).any (·.1) = false := by rfl) :
    KE X w0 (.Call (.Name x p) (e :: es) [] pos) ss R := by
  obtain ⟨f, fd, ps, F, hm, hkp, hb⟩ := Dn0
  exact PE.imp (pe_callS (E := WE W) F (hr.mono hk) hg hm hkp hb (fun σ => passAt tk σ) h hdb he hpl) fun σ H Q ⟨w, ew, hs, q⟩ => ⟨w, ew, hs, fun vs as w1 l1 hvs hk2 => ⟨w1, as, C, rfl, hvs, hk2, fun w' l2 => out σ w' (hs.mono (l1.trans l2))⟩⟩
theorem ks_tryN {x n : Str} {c C : Addr} {i : Nat} {body suite : List Stmt} {st0 : Stmt} {N : AN} {np pos pos' : Pos} (hs : X.stack = X.env :: X.outer) (hf : X.env.frame = some X.env.locals) (hN : X.N.Nodup) (hi : X.N[i]? = some n) (hln : X.env.kindOf n = some .local)
    (hc : Names X x (.ref c)) (hl : i < ss.length) (nb : noBuf ss)
    (hb : ∀ (w1 : Wl) (W : WX) (pn : List (Addr × Obj)) (xe : Value → Shared → Prop), Takes (X.tr pn xe) W → PassesOwn (model X.prog X.w) X.A X.env xe → outW0 X.K w1 ss C W → KSs (X.tr pn xe) w1 body ss N)
    (hx : PySem.W.exmOne X.K (.ref C) (.ref c) = some true) (hx2 : ∀ (a : Addr) (oe : Obj) (pn : List (Addr × Obj)) (w1 : Wl), Zc (.ref C) none oe → (∃ vs, oe.data = .fields vs) →
      KSs (X.suite a ((a, oe) :: pn)) w1 (st0 :: suite) (ss.set i (some (.at_ a))) { nx := fun s => N.nx (s.set i none), rt := N.rt, bk := fun s => N.bk (s.set i none), ct := fun s => N.ct (s.set i none) }) :
    KS X w0 (.Try body [.ExceptHandler (some (.Name x np)) (some n) (st0 :: suite) pos'] [] [] pos) ss N := by
  refine PS.imp (ps_try_as (tb := fun W D σ H => (∃ w1 : Wl, outW0 X.K w1 ss C W ∧ tsOf X.K w1 ss N D σ H))
    (ts := fun a cls d D σ H => ∃ (w1 : Wl), cls = .ref C ∧ d = none ∧ tsOf X.K w1 (ss.set i (some (.at_ a))) { nx := fun s => N.nx (s.set i none), rt := N.rt, bk := fun s => N.bk (s.set i none), ct := fun s => N.ct (s.set i none) } D σ H)
    (Wout := fun _ _ _ _ => False) hs hf hN hi hln hc takes0
    (fun W pn xe tk po => ⟨fun pins s σ H D I ⟨w1, o, h⟩ => (hb w1 W pn xe tk po o).run pins s σ H D I h⟩)
    (fun a oe cls d pn hz hd => ⟨fun pins s σ H D I ⟨w1, ec, ed, h⟩ => by
      subst ec
      subst ed
      exact (hx2 a oe pn w1 hz hd).run pins s σ H D I h⟩)) fun D σ H ⟨w, ew, hsl, d⟩ => ?_
  refine ⟨w.bare, fun σ1 w' hs1 => ?_, w, ew, hsl.re nb, ⟨fun σ' ss' w' e h k => d.nx σ' ss' w' e (hsl.back h) k, fun v a w' e l h k => d.rt v a w' e (hsl.le.trans l.unbare) h k, fun σ' ss' w' e h k => d.bk σ' ss' w' e (hsl.back h) k, fun σ' ss' w' e h k => d.ct σ' ss' w' e (hsl.back h) k⟩⟩
  refine ⟨true, hx, fun _ a ha => ?_, fun q => nomatch q⟩
  refine ⟨w'.bare, rfl, rfl, w', rfl, (hs1.re nb).set (a := .at_ a) i rfl rfl, ?_⟩
  have back : ∀ {σ2 : L2.St} {ss2 : SS} {w2 : Wl}, Sl X.K w'.bare w2 σ2 ss2 → Sl X.K w0 w2 (σ2.set i none) (ss2.set i none) := fun h => hsl.back (hs1.back (h.wipe [i]))
  have g1 : Ex w.g w'.g := hs1.le.g
  exact ⟨fun σ2 ss2 w2 e h k => d.nx _ _ w2 (g1.trans e) (back h) k, fun v b w2 e l h k => d.rt v b w2 (g1.trans e) (hsl.le.trans (hs1.le.unbare.trans l.unbare)) h k, fun σ2 ss2 w2 e h k => d.bk _ _ w2 (g1.trans e) (back h) k, fun σ2 ss2 w2 e h k => d.ct _ _ w2 (g1.trans e) (back h) k⟩
/-- isinstance(e, T), T a built-in class, in the suite of such an error -/
theorem k_isTN {a D : Addr} {T0 : String} {oe : Obj} {pn : List (Addr × Obj)} {b : Bool} {e : Expr} {x : Str} {p p2 pos : Pos} {R : AV → Prop} (T : ExcC X.K D) (hz : Zc (.ref D) none oe) (hf : ∃ vs, oe.data = .fields vs) (hg : Gl X "isinstance") (hm : X.mg "isinstance" = none) (hg2 : Gl X x) (hm2 : X.mg x = none) (hv2 : bootBuiltins x = some (.type T0)) (hk : PySem.W.kitOne X.K (.ref D) (.type T0) = some b)
    (h : KE (X.suite a ((a, oe) :: pn)) w0 e ss fun r => r = .at_ a ∧ R (.dat (.bool b))) (hn : x ≠ "__name__" := by decide) (hdb : (x == ("__debug__" : Str)) = false := by decide)
    (he : starEach [e, .Name x p2] X.env = (false, eval e X.env) :: starEach [.Name x p2] X.env := by rfl) (hpl : (backTo pos (starEach [.Name x p2] X.env)).any (·.1) = false := by rfl)
    (he2 : starEach [.Name x p2] X.env = (false, eval (.Name x p2) X.env) :: starEach [] X.env := by rfl) : KE (X.suite a ((a, oe) :: pn)) w0 (.Call (.Name "isinstance" p) [e, .Name x p2] [] pos) ss R :=
  PE.imp (pe_callB (X := X.suite a ((a, oe) :: pn)) (call_isE T hz hf) hg hm (by decide +kernel) (pa_cons h (pa_cons (pe_bltn (X := X.suite a ((a, oe) :: pn)) hg2 hm2 hv2 (v := .ty T0) rfl hn hdb) pa_nil he2) he) (by decide) (by decide) he hpl) fun σ H Q ⟨w, ew, hs, q⟩ => ⟨w, ew, hs, fun v r w1 l1 hv hkk => by
    obtain ⟨rfl, hr⟩ := hkk
    cases hv
    exact ⟨.ty T0, .type T0, b, rfl, fun u r => by cases r; rfl, hk, q (.bl b) (.dat (.bool b)) w1 l1 (.bl b) hr⟩⟩
end
end Kp


namespace Kp
open PySem PySem.Spec PyProof.Rows L2
section
variable {X : Cx} {w0 : Wl} {ss : SS} {st : Store}
/-- one statement with a store of its own -/
theorem ks_ofM1 {s : Stmt} {N : AN} (nb : noBuf ss) (h : ∀ w1 : Wl, MS X w1 s [] ss { nx := fun _ ss' => N.nx ss', rt := fun _ a => N.rt a, bk := fun _ ss' => N.bk ss', ct := fun _ ss' => N.ct ss' }) : KS X w0 s ss N :=
  ⟨fun pins s σ H D I ⟨w, ew, hs, d⟩ => (h w.bare).run pins s σ H D I ⟨w, ew, hs.re nb, ⟨fun σ' ss' st' w' e hs' k => d.nx σ' ss' w' e (hs.back (Sl.forget hs')) k, fun v a st' w' e l o ha k => d.rt v a w' e (hs.le.trans l.unbare) ha k, fun σ' ss' st' w' e hs' k => d.bk σ' ss' w' e (hs.back (Sl.forget hs')) k, fun σ' ss' st' w' e hs' k => d.ct σ' ss' w' e (hs.back (Sl.forget hs')) k⟩⟩⟩
/-- behind the first statement something holds -/
theorem ks_mid {s : Stmt} {rest : List Stmt} {N : AN} (J : SS → Prop) (h1 : KS X w0 s ss { N with nx := J }) (h2 : ∀ ss', J ss' → KSs X w0 rest ss' N) : KSs X w0 (s :: rest) ss N :=
  ks_cons (PS.imp h1 fun D σ H ⟨w, ew, hs, d⟩ => ⟨w, ew, hs, ⟨fun σ' ss' w' e hs' k => d.nx σ' ss' w' e hs' (h2 ss' k), d.rt, d.bk, d.ct⟩⟩)
theorem m_mid {s : Stmt} {rest : List Stmt} {N : MN} (J : Store → SS → Prop) (h1 : MS X w0 s st ss { N with nx := J }) (h2 : ∀ st' ss', J st' ss' → MSs X w0 rest st' ss' N) : MSs X w0 (s :: rest) st ss N :=
  m_cons (PS.imp h1 fun D σ H ⟨w, ew, hs, d⟩ => ⟨w, ew, hs, ⟨fun σ' ss' st' w' e hs' k => d.nx σ' ss' st' w' e hs' (h2 st' ss' k), d.rt, d.bk, d.ct⟩⟩)
end
end Kp


namespace Kp
open PySem PySem.Spec PyProof.Rows L2
/-! ### repr tells small data apart -/
def cp (d : PyData) : List Nat := d.shown.cps.toList
def leavesL : List PyData := [.none] ++ (List.range 13).map (fun n => .int (n : Nat)) ++ (["read", "write", "change", "fence", "x", "y", "box", "b", "a", "plain", "loose", "taking", "giving", "both"] : List Str).map .str
def dl3 : List Nat := [44, 41, 93]
def opn2 : List Nat := [40, 91]
def atomB : PyData → Bool
  | .list _ => false
  | .tuple _ => false
  | _ => true
theorem leaf_texts : leavesL.map cp = [[78, 111, 110, 101], [48], [49], [50], [51], [52], [53], [54], [55], [56], [57], [49, 48], [49, 49], [49, 50],
  [39, 114, 101, 97, 100, 39], [39, 119, 114, 105, 116, 101, 39], [39, 99, 104, 97, 110, 103, 101, 39], [39, 102, 101, 110, 99, 101, 39], [39, 120, 39], [39, 121, 39], [39, 98, 111, 120, 39], [39, 98, 39], [39, 97, 39], [39, 112, 108, 97, 105, 110, 39], [39, 108, 111, 111, 115, 101, 39], [39, 116, 97, 107, 105, 110, 103, 39], [39, 103, 105, 118, 105, 110, 103, 39], [39, 98, 111, 116, 104, 39]] := by
  unfold leavesL cp
  simp only [List.map_append, List.map_cons, List.map_nil, List.map_map]
  decide +kernel
theorem inj_of_nodup {α β : Type} {f : α → β} : ∀ {l : List α}, (l.map f).Nodup → ∀ x ∈ l, ∀ y ∈ l, f x = f y → x = y
  | [], _, x, hx, _, _, _ => absurd hx List.not_mem_nil
  | a :: l, h, x, hx, y, hy, e => by
    rw [List.map_cons] at h
    obtain ⟨h1, h2⟩ := List.nodup_cons.mp h
    rcases List.mem_cons.mp hx with ex | hx'
    · rcases List.mem_cons.mp hy with ey | hy'
      · rw [ex, ey]
      · exact absurd (by rw [← ex, e]; exact List.mem_map_of_mem hy') h1
    · rcases List.mem_cons.mp hy with ey | hy'
      · exact absurd (by rw [← ey, ← e]; exact List.mem_map_of_mem hx') h1
      · exact inj_of_nodup h2 x hx' y hy' e
theorem leaf_inj {d e : PyData} (hd : d ∈ leavesL) (he : e ∈ leavesL) (h : cp d = cp e) : d = e :=
  inj_of_nodup (f := cp) (l := leavesL) (by rw [leaf_texts]; decide +kernel) d hd e he h
theorem leaf_chars {d : PyData} (hd : d ∈ leavesL) : cp d ≠ [] ∧ ∀ c ∈ cp d, c ∉ dl3 ∧ c ∉ opn2 := by
  have k : ((leavesL.map cp).all fun l => !l.isEmpty && l.all fun c => !dl3.contains c && !opn2.contains c) = true := by
    rw [leaf_texts]
    decide +kernel
  have q := List.all_eq_true.mp k (cp d) (List.mem_map_of_mem hd)
  rw [Bool.and_eq_true] at q
  refine ⟨fun e => ?_, fun c hc => ?_⟩
  · rw [e] at q
    exact absurd q.1 (by decide)
  · have z := List.all_eq_true.mp q.2 c hc
    rw [Bool.and_eq_true] at z
    refine ⟨fun m => ?_, fun m => ?_⟩
    · have := List.contains_iff_mem.mpr m
      rw [this] at z
      exact absurd z.1 (by decide)
    · have := List.contains_iff_mem.mpr m
      rw [this] at z
      exact absurd z.2 (by decide)
theorem leaf_atom {d : PyData} (hd : d ∈ leavesL) : atomB d = true := by
  have k : (leavesL.all atomB) = true := by decide +kernel
  exact List.all_eq_true.mp k d hd
/-- trees of such leaves; tuples of two at least -/
inductive Tr : PyData → Prop
  | leaf {d : PyData} : d ∈ leavesL → Tr d
  | list {ds : List PyData} : (∀ d ∈ ds, Tr d) → Tr (.list ds)
  | tup {ds : List PyData} : 2 ≤ ds.length → (∀ d ∈ ds, Tr d) → Tr (.tuple ds)
theorem Tr.ofList {ds : List PyData} (h : Tr (.list ds)) : ∀ d ∈ ds, Tr d := by
  cases h with
  | leaf h => exact absurd (leaf_atom h) Bool.false_ne_true
  | list h => exact h
theorem Tr.ofTup {ds : List PyData} (h : Tr (.tuple ds)) : 2 ≤ ds.length ∧ ∀ d ∈ ds, Tr d := by
  cases h with
  | leaf h => exact absurd (leaf_atom h) Bool.false_ne_true
  | tup h1 h2 => exact ⟨h1, h2⟩
def cpJ (ds : List PyData) : List Nat := (Str.join ", " (PyData.shownAll ds)).cps.toList
def cpR : List PyData → List Nat
  | [] => []
  | y :: r => 44 :: 32 :: cpJ (y :: r)
theorem cps_add (a b : Str) : (a ++ b).cps.toList = a.cps.toList ++ b.cps.toList := by
  show (a.cps ++ b.cps).toList = _
  exact Array.toList_append
theorem cpJ_cons (x : PyData) : ∀ r, cpJ (x :: r) = cp x ++ cpR r
  | [] => by
    unfold cpJ cpR cp
    simp only [PyData.shownAll, Str.join, List.append_nil]
  | y :: r => by
    unfold cpR
    show (Str.join ", " (PyData.shownAll (x :: y :: r))).cps.toList = _
    simp only [PyData.shownAll, Str.join]
    rw [cps_add, cps_add]
    unfold cp cpJ
    simp only [PyData.shownAll]
    rw [List.append_assoc]
    rfl
theorem cp_list (ds : List PyData) : cp (.list ds) = 91 :: (cpJ ds ++ [93]) := by
  unfold cp
  rw [PyData.shown_list, cps_add, cps_add]
  rfl
theorem cp_tup {ds : List PyData} (h : 2 ≤ ds.length) : cp (.tuple ds) = 40 :: (cpJ ds ++ [41]) := by
  unfold cp
  rw [PyData.shown_tuple, cps_add, cps_add, show (ds.length == 1) = false by rw [beq_eq_false_iff_ne]; omega]
  rfl
theorem Tr.head {d : PyData} (h : Tr d) : ∃ a r, cp d = a :: r ∧ a ∉ dl3 := by
  cases h with
  | leaf h =>
    obtain ⟨h1, h2⟩ := leaf_chars h
    cases q : cp d with
    | nil => exact absurd q h1
    | cons a r => exact ⟨a, r, rfl, (h2 a (by rw [q]; exact List.mem_cons_self)).1⟩
  | list h => exact ⟨91, _, cp_list _, by decide⟩
  | tup h1 h2 => exact ⟨40, _, cp_tup h1, by decide⟩
def Dl (s : List Nat) : Prop := s = [] ∨ ∃ c r, s = c :: r ∧ c ∈ dl3
/-- up to what ends a text -/
theorem cut_leaf : ∀ {u v s t : List Nat}, (∀ c ∈ u, c ∉ dl3) → (∀ c ∈ v, c ∉ dl3) → Dl s → Dl t → u ++ s = v ++ t → u = v ∧ s = t
  | [], [], s, t, _, _, _, _, e => ⟨rfl, e⟩
  | [], b :: v, s, t, _, hv, hs, _, e => by
    exfalso
    rcases hs with rfl | ⟨c, r, rfl, hc⟩
    · cases e
    · injection e with e1 e2
      exact hv b List.mem_cons_self (by rw [← e1]; exact hc)
  | a :: u, [], s, t, hu, _, _, ht, e => by
    exfalso
    rcases ht with rfl | ⟨c, r, rfl, hc⟩
    · cases e
    · injection e with e1 e2
      exact hu a List.mem_cons_self (by rw [e1]; exact hc)
  | a :: u, b :: v, s, t, hu, hv, hs, ht, e => by
    injection e with e1 e2
    obtain ⟨h1, h2⟩ := cut_leaf (fun c m => hu c (List.mem_cons_of_mem _ m)) (fun c m => hv c (List.mem_cons_of_mem _ m)) hs ht e2
    exact ⟨by rw [e1, h1], h2⟩
theorem cpR_dl {r : List PyData} {c : Nat} {s : List Nat} (hc : c ∈ dl3) : Dl (cpR r ++ c :: s) := by
  cases r with
  | nil => exact .inr ⟨c, s, rfl, hc⟩
  | cons y q => exact .inr ⟨44, _, rfl, by decide⟩
theorem leaf_case {d e : PyData} {s t : List Nat} (hd : d ∈ leavesL) (he : Tr e) (hs : Dl s) (ht : Dl t) (h : cp d ++ s = cp e ++ t) : d = e ∧ s = t := by
  obtain ⟨h1, h2⟩ := leaf_chars hd
  cases he with
  | leaf he =>
    obtain ⟨_, g2⟩ := leaf_chars he
    obtain ⟨e1, e2⟩ := cut_leaf (fun c m => (h2 c m).1) (fun c m => (g2 c m).1) hs ht h
    exact ⟨leaf_inj hd he e1, e2⟩
  | list he =>
    exfalso
    cases q : cp d with
    | nil => exact h1 q
    | cons a r =>
      rw [q, cp_list] at h
      injection h with e1 _
      exact (h2 a (by rw [q]; exact List.mem_cons_self)).2 (by rw [e1]; decide)
  | tup g1 g2 =>
    exfalso
    cases q : cp d with
    | nil => exact h1 q
    | cons a r =>
      rw [q, cp_tup g1] at h
      injection h with e1 _
      exact (h2 a (by rw [q]; exact List.mem_cons_self)).2 (by rw [e1]; decide)
mutual
theorem tr_inj : ∀ (d : PyData), Tr d → ∀ (e : PyData), Tr e → ∀ s t, Dl s → Dl t → cp d ++ s = cp e ++ t → d = e ∧ s = t
  | .list ds, hd, e, he, s, t, hs, ht, h => by
    rw [cp_list] at h
    cases he with
    | leaf he =>
      exfalso
      obtain ⟨h1, h2⟩ := leaf_chars he
      cases q : cp e with
      | nil => exact h1 q
      | cons a r =>
        rw [q] at h
        injection h with e1 _
        exact (h2 a (by rw [q]; exact List.mem_cons_self)).2 (by rw [← e1]; decide)
    | @list es he =>
      rw [cp_list] at h
      injection h with _ h
      have h : (cpJ ds ++ [93]) ++ s = (cpJ es ++ [93]) ++ t := h
      rw [List.append_assoc, List.append_assoc] at h
      obtain ⟨e1, e2⟩ := tr_injA ds hd.ofList es he 93 s t (by decide) h
      exact ⟨by rw [e1], e2⟩
    | tup h1 h2 =>
      rw [cp_tup h1] at h
      injection h with e1 _
      exact absurd e1 (by decide)
  | .tuple ds, hd, e, he, s, t, hs, ht, h => by
    obtain ⟨hd1, hd2⟩ := hd.ofTup
    rw [cp_tup hd1] at h
    cases he with
    | leaf he =>
      exfalso
      obtain ⟨h1, h2⟩ := leaf_chars he
      cases q : cp e with
      | nil => exact h1 q
      | cons a r =>
        rw [q] at h
        injection h with e1 _
        exact (h2 a (by rw [q]; exact List.mem_cons_self)).2 (by rw [← e1]; decide)
    | list he =>
      rw [cp_list] at h
      injection h with e1 _
      exact absurd e1 (by decide)
    | @tup es h1 h2 =>
      rw [cp_tup h1] at h
      injection h with _ h
      have h : (cpJ ds ++ [41]) ++ s = (cpJ es ++ [41]) ++ t := h
      rw [List.append_assoc, List.append_assoc] at h
      obtain ⟨e1, e2⟩ := tr_injA ds hd2 es h2 41 s t (by decide) h
      exact ⟨by rw [e1], e2⟩
  | .none, hd, e, he, s, t, hs, ht, h => leaf_case (by cases hd; assumption) he hs ht h
  | .bool b, hd, e, he, s, t, hs, ht, h => leaf_case (by cases hd; assumption) he hs ht h
  | .int i, hd, e, he, s, t, hs, ht, h => leaf_case (by cases hd; assumption) he hs ht h
  | .str z, hd, e, he, s, t, hs, ht, h => leaf_case (by cases hd; assumption) he hs ht h
  | .dict z, hd, e, he, s, t, hs, ht, h => leaf_case (by cases hd; assumption) he hs ht h
theorem tr_injA : ∀ (ds : List PyData), (∀ d ∈ ds, Tr d) → ∀ (es : List PyData), (∀ e ∈ es, Tr e) → ∀ (c : Nat) (s t : List Nat), c ∈ ([41, 93] : List Nat) → cpJ ds ++ (c :: s) = cpJ es ++ (c :: t) → ds = es ∧ s = t
  | [], _, [], _, c, s, t, hc, h => by
    injection h with _ h
    exact ⟨rfl, h⟩
  | [], _, y :: es, he, c, s, t, hc, h => by
    exfalso
    obtain ⟨a, r, e1, e2⟩ := (he y List.mem_cons_self).head
    rw [cpJ_cons, e1] at h
    injection h with h1 _
    exact e2 (by rw [← h1]; simp only [List.mem_cons, List.not_mem_nil, or_false] at hc; rcases hc with rfl | rfl <;> decide)
  | x :: ds, hd, [], _, c, s, t, hc, h => by
    exfalso
    obtain ⟨a, r, e1, e2⟩ := (hd x List.mem_cons_self).head
    rw [cpJ_cons, e1] at h
    injection h with h1 _
    exact e2 (by rw [h1]; simp only [List.mem_cons, List.not_mem_nil, or_false] at hc; rcases hc with rfl | rfl <;> decide)
  | x :: ds, hd, y :: es, he, c, s, t, hc, h => by
    have hc3 : c ∈ dl3 := by simp only [List.mem_cons, List.not_mem_nil, or_false] at hc; rcases hc with rfl | rfl <;> decide
    have hc4 : c ≠ 44 := by simp only [List.mem_cons, List.not_mem_nil, or_false] at hc; rcases hc with rfl | rfl <;> decide
    rw [cpJ_cons, cpJ_cons, List.append_assoc, List.append_assoc] at h
    obtain ⟨e1, e2⟩ := tr_inj x (hd x List.mem_cons_self) y (he y List.mem_cons_self) _ _ (cpR_dl hc3) (cpR_dl hc3) h
    have go : ds = es ∧ s = t := by
      cases ds with
      | nil =>
        cases es with
        | nil =>
          injection e2 with _ e2
          exact ⟨rfl, e2⟩
        | cons y2 es =>
          injection e2 with e3 _
          exact absurd e3 hc4
      | cons x2 ds =>
        cases es with
        | nil =>
          injection e2 with e3 _
          exact absurd e3.symm hc4
        | cons y2 es =>
          injection e2 with _ e2
          injection e2 with _ e2
          exact tr_injA (x2 :: ds) (fun d m => hd d (List.mem_cons_of_mem _ m)) (y2 :: es) (fun d m => he d (List.mem_cons_of_mem _ m)) c s t hc e2
    exact ⟨by rw [e1, go.1], go.2⟩
end
/-- alike texts, alike data -/
theorem shown_inj {d e : PyData} (hd : Tr d) (he : Tr e) (h : d.shown = e.shown) : d = e :=
  (tr_inj d hd e he [] [] (.inl rfl) (.inl rfl) (by unfold cp; rw [h])).1
end Kp


namespace Kp
open PySem PySem.Spec PyProof.Rows L2
theorem wipe2_set {K : PySem.W.Frag} {σ : L2.St} {j k : Nat} {x y : Option V} {vs : List Nat} (hj : j ∈ vs) (hk : k ∈ vs) : L2.wipe ((σ.set j x).set k y) vs = L2.wipe σ vs := by
  rw [wipe_set _ hk, wipe_set _ hj]
/-- a pair of targets among the names that are wiped -/
theorem tgok2in {K : PySem.W.Frag} {w0 : Wl} (j k : Nat) {vs : List Nat} (hj : j ∈ vs) (hk : k ∈ vs) : TgOk K w0 (gTup K 2 (gCons (gName j) (gCons (gName k) gNil))) (tg2 j k) vs := ⟨fun v d w σ ss P Q hd hs hT q => by
  unfold tg2 at hT
  split at hT
  · rename_i d1 d2
    cases hd with
    | tup h1 a1 =>
      cases a1 with
      | cons b1 a1 =>
        cases a1 with
        | cons b2 a1 =>
          cases a1
          exact ⟨_, _, rfl, w.t h1, rfl, _, _, rfl, _, _, rfl, rfl, q _ _ ((hs.set (a := .dat d1) j rfl b1).set (a := .dat d2) k rfl b2) (wipe2_set (K := K) hj hk) hT⟩
  · exact hT.elim⟩
section
variable {X : Cx} {w0 : Wl} {ss : SS} {st : Store} {pos : Pos}
/-- (e1, e2), a new tuple of the store, its parts made for it -/
theorem me_tup2 {e1 e2 : Expr} {x1 : Nat} {R : Store → AV → Prop} (h : ME X w0 e1 st ss fun st1 a => ME X w0 e2 st1 ss fun st2 b => a.plain = true ∧ b.plain = true ∧ ∀ p, Fresh st2 p → R ((p, Ck.tup, [a, b]) :: st2) (.at_ p))
    (h1 : starEach [e1, e2] X.env = (false, eval e1 X.env) :: starEach [e2] X.env := by rfl) (h2 : starEach [e2] X.env = (false, eval e2 X.env) :: starEach [] X.env := by rfl) : ME X w0 (.Tuple [e1, e2] x1 pos) st ss R :=
  PE.imp (pe_tup (pa_cons h (pa_cons (pe_anM (w0 := w0)) pa_nil h2) h1)) fun σ H Q ⟨w, ew, hs, q⟩ => ⟨w, ew, hs, fun v a st1 w1 g1 hs1 hv hk => by
    refine ⟨st1, ss, _, hk, w1, rfl, hs1, fun u b st2 w2 g2 hs2 hu ⟨pa, pb, hr⟩ => ?_⟩
    have hvs : AvA X.K w2 [v, u] [a, b] := .cons (Av.monoG g2 pa hv) (.cons hu .nil)
    refine ⟨by show 2 ≤ sizeLine; decide, fun p hp => ?_⟩
    obtain ⟨fr, hs3⟩ := Sl.new (b := .tup) (vs := [v, u]) (as := [a, b]) hs2 (Le.own (o := .tup [v, u]) hp) hp upd_same (w2.gfree hp) (hvs.mono (Le.own (o := .tup [v, u]) hp)) (by rw [List.all_cons, List.all_cons, pa, pb]; rfl)
    exact q (.ref p) (.at_ p) _ (w2.own p (.tup [v, u]) (w2.gfree hp)) (g1.trans g2) hs3 rfl (hr p fr)⟩
/-- a[::-1] of a list -/
theorem k_revL {a : Expr} {k : Nat} {p1 p2 p3 : Pos} {R : AV → Prop} (h : KE X w0 a ss fun x => onList x fun ds => R (.dat (.list ds.reverse))) : KE X w0 (.Subscript a (.Slice none none (some (.UnaryOp .USub (.Constant (.int 1) k p1) p2)) p3) pos) ss R :=
  PE.imp (pe_revL h) fun σ H Q ⟨w, ew, hS, q⟩ => ⟨w, ew, hS, fun v a w1 l1 hv hk => by
    have hk : onList a fun ds => R (.dat (.list ds.reverse)) := hk
    unfold onList at hk
    split at hk
    · cases hv with
      | lst h1 d1 => exact ⟨_, _, rfl, .inl (.inl (w1.sub _ _ h1)), Le.lst d1.rev hk fun v a w' l x r => q v a w' (l1.trans l) x r⟩
    · exact hk.elim⟩
end
theorem eqv_pr (p q : Int × Int) : PyData.eqv (prI p) (prI q) = decide (p = q) := by
  have e : PyData.eqv (prI p) (prI q) = ((p.1 == q.1) && ((p.2 == q.2) && true)) := by simp only [prI, PyData.eqv, PyData.eqvAll]
  rw [e, Bool.and_true]
  obtain ⟨a, b⟩ := p
  obtain ⟨c, d⟩ := q
  by_cases h1 : a = c
  · by_cases h2 : b = d
    · subst h1 h2; simp
    · simp [h1, h2]
  · simp [h1]
theorem pr_pure (p : Int × Int) : pureD (prI p) = true := rfl
theorem pr_inj {p q : Int × Int} (h : prI p = prI q) : p = q := by
  cases p; cases q
  cases h
  rfl
theorem prs_inj {ps qs : List (Int × Int)} (h : ps.map prI = qs.map prI) : ps = qs := by
  induction ps generalizing qs with
  | nil =>
    cases qs with
    | nil => rfl
    | cons _ _ => cases h
  | cons p ps ih =>
    cases qs with
    | nil => cases h
    | cons q qs =>
      rw [List.map_cons, List.map_cons] at h
      injection h with h1 h2
      rw [pr_inj h1, ih h2]
theorem ltP_trans {p q r : Int × Int} (h : ltP p q = true) (k : ltP q r = true) : ltP p r = true := by
  unfold ltP at *
  simp only [Bool.or_eq_true, Bool.and_eq_true, decide_eq_true_eq] at *
  omega
theorem ltP_irr {p : Int × Int} (h : ltP p p = true) : False := by
  unfold ltP at h
  simp only [Bool.or_eq_true, Bool.and_eq_true, decide_eq_true_eq] at h
  omega
theorem ltP_tri {p q : Int × Int} (h : ltP p q = false) (k : ltP q p = false) : p = q := by
  unfold ltP at *
  simp only [Bool.or_eq_false_iff, Bool.and_eq_false_iff, decide_eq_false_iff_not] at *
  exact Prod.ext (by omega) (by omega)
/-- strictly rising -/
def Up (ps : List (Int × Int)) : Prop := ps.Pairwise fun p q => ltP p q = true
instance (ps : List (Int × Int)) : Decidable (Up ps) := inferInstanceAs (Decidable (ps.Pairwise fun p q => ltP p q = true))
theorem up_one : ∀ {xs ys : List (Int × Int)}, Up xs → Up ys → (∀ k, k ∈ xs ↔ k ∈ ys) → xs = ys
  | [], [], _, _, _ => rfl
  | [], y :: ys, _, _, h => absurd ((h y).mpr List.mem_cons_self) List.not_mem_nil
  | x :: xs, [], _, _, h => absurd ((h x).mp List.mem_cons_self) List.not_mem_nil
  | x :: xs, y :: ys, hx, hy, h => by
    obtain ⟨x1, x2⟩ := List.pairwise_cons.mp hx
    obtain ⟨y1, y2⟩ := List.pairwise_cons.mp hy
    have e : x = y := by
      rcases List.mem_cons.mp ((h x).mp List.mem_cons_self) with z | z
      · exact z
      · rcases List.mem_cons.mp ((h y).mpr List.mem_cons_self) with z2 | z2
        · exact z2.symm
        · exact (ltP_irr (ltP_trans (x1 y z2) (y1 x z))).elim
    subst e
    rw [up_one x2 y2 fun k => ⟨fun hk => ?_, fun hk => ?_⟩]
    · rcases List.mem_cons.mp ((h k).mp (List.mem_cons_of_mem _ hk)) with z | z
      · subst z; exact (ltP_irr (x1 k hk)).elim
      · exact z
    · rcases List.mem_cons.mp ((h k).mpr (List.mem_cons_of_mem _ hk)) with z | z
      · subst z; exact (ltP_irr (y1 k hk)).elim
      · exact z
/-- rising from each to the next is rising -/
theorem up_of {ps : List (Int × Int)} (h : ∀ i p q, ps[i]? = some p → ps[i + 1]? = some q → ltP p q = true) : Up ps := by
  induction ps with
  | nil => exact .nil
  | cons p ps ih =>
    have u := ih fun i a b e1 e2 => h (i + 1) a b e1 e2
    refine List.pairwise_cons.mpr ⟨fun q hq => ?_, u⟩
    cases ps with
    | nil => cases hq
    | cons r rs =>
      have pr := h 0 p r rfl rfl
      rcases List.mem_cons.mp hq with z | z
      · rw [z]; exact pr
      · exact ltP_trans pr ((List.pairwise_cons.mp u).1 q z)
theorem up_at {ps : List (Int × Int)} (h : Up ps) {i : Nat} {p q : Int × Int} (e1 : ps[i]? = some p) (e2 : ps[i + 1]? = some q) : ltP p q = true := by
  obtain ⟨l1, x1⟩ := List.getElem?_eq_some_iff.mp e1
  obtain ⟨l2, x2⟩ := List.getElem?_eq_some_iff.mp e2
  rw [← x1, ← x2]
  exact List.pairwise_iff_getElem.mp h i (i + 1) l1 l2 (Nat.lt_succ_self i)
end Kp


namespace K61
open PySem PySem.Spec PyProof.Rows L2 Kp
abbrev sCalled : Stmt := top 28
def kwC : List (Str × V) := [("hands", .non), ("boxes", .non)]
section
variable {K : PySem.W.Frag} {f : Addr} {fd : FuncData}
theorem valsApp {vs zs : List V} {us ws : List Value} (h : Vals vs us) (k : Vals zs ws) : Vals (vs ++ zs) (us ++ ws) := h.append k
theorem kb_h (F : FunD K "called" "called" (defArgs sCalled) (defBody sCalled) (defScope sCalled) [] kwC f fd) : ∃ g gV, KBn K fd ["program", "hands", "boxes"] 1 ["hands"] g gV ∧ ∀ (w' : Wl) (vs zs : List V) (as bs : List AV), AvA K w' vs as → AvA K w' zs bs → AvA K w' (gV vs zs) ((as ++ bs) ++ [.dat .none]) := by
  obtain ⟨mv, h⟩ := F.kbinds0 (ps := ["program", "hands", "boxes"]) 1 ["hands"] [("boxes", .non)] (fun us mv ws => us ++ ws ++ mv) (List.cons_ne_nil _ _) (fun q hq => List.mem_cons_of_mem _ hq) (fun r1 r2 r3 => valsApp (valsApp r1 r3) r2)
    (fun D doc pm an cdv ct us mv ws l1 l2 l3 => match us, mv, ws, l1, l2, l3 with | [_], [_], [_], _, _, _ => by (refine ⟨_, _, _, _, _, _, rfl, rfl, ?_⟩; show (_ : Sem _) = _; rfl))
  exact ⟨_, _, h, fun w' vs zs as bs h1 h2 => AvA.appA (AvA.appA h1 h2) (none_all 1)⟩
theorem kb_b (F : FunD K "called" "called" (defArgs sCalled) (defBody sCalled) (defScope sCalled) [] kwC f fd) : ∃ g gV, KBn K fd ["program", "hands", "boxes"] 1 ["boxes"] g gV ∧ ∀ (w' : Wl) (vs zs : List V) (as bs : List AV), AvA K w' vs as → AvA K w' zs bs → AvA K w' (gV vs zs) (as ++ [.dat .none] ++ bs) := by
  obtain ⟨mv, h⟩ := F.kbinds0 (ps := ["program", "hands", "boxes"]) 1 ["boxes"] [("hands", .non)] (fun us mv ws => us ++ mv ++ ws) (List.cons_ne_nil _ _) (fun q hq => by rw [List.mem_singleton.mp hq]; exact List.mem_cons_self) (fun r1 r2 r3 => valsApp (valsApp r1 r2) r3)
    (fun D doc pm an cdv ct us mv ws l1 l2 l3 => match us, mv, ws, l1, l2, l3 with | [_], [_], [_], _, _, _ => by (refine ⟨_, _, _, _, _, _, rfl, rfl, ?_⟩; show (_ : Sem _) = _; rfl))
  exact ⟨_, _, h, fun w' vs zs as bs h1 h2 => AvA.appA (AvA.appA h1 (none_all 1)) h2⟩
theorem kb_hb (F : FunD K "called" "called" (defArgs sCalled) (defBody sCalled) (defScope sCalled) [] kwC f fd) : ∃ g gV, KBn K fd ["program", "hands", "boxes"] 1 ["hands", "boxes"] g gV ∧ ∀ (w' : Wl) (vs zs : List V) (as bs : List AV), AvA K w' vs as → AvA K w' zs bs → AvA K w' (gV vs zs) (as ++ bs) := by
  obtain ⟨mv, h⟩ := F.kbinds0 (ps := ["program", "hands", "boxes"]) 1 ["hands", "boxes"] [] (fun us mv ws => us ++ ws) (List.cons_ne_nil _ _) (fun q hq => by cases hq) (fun r1 r2 r3 => valsApp r1 r3)
    (fun D doc pm an cdv ct us mv ws l1 l2 l3 => match us, mv, ws, l1, l2, l3 with | [_], [], [_, _], _, _, _ => by (show (_ : Sem _) = _; rfl))
  exact ⟨_, _, h, fun w' vs zs as bs h1 h2 => AvA.appA h1 h2⟩
theorem kb_bh (F : FunD K "called" "called" (defArgs sCalled) (defBody sCalled) (defScope sCalled) [] kwC f fd) : ∃ g gV, KBn K fd ["program", "hands", "boxes"] 1 ["boxes", "hands"] g gV ∧ ∀ (w' : Wl) (vs zs : List V) (as bs : List AV), AvA K w' vs as → AvA K w' zs bs → AvA K w' (gV vs zs) (as ++ bs.reverse) := by
  obtain ⟨mv, h⟩ := F.kbinds0 (ps := ["program", "hands", "boxes"]) 1 ["boxes", "hands"] [] (fun us mv ws => us ++ ws.reverse) (List.cons_ne_nil _ _) (fun q hq => by cases hq) (fun r1 r2 r3 => valsApp r1 r3.reverse)
    (fun D doc pm an cdv ct us mv ws l1 l2 l3 => match us, mv, ws, l1, l2, l3 with | [_], [], [_, _], _, _, _ => by (show (_ : Sem _) = _; rfl))
  exact ⟨_, _, h, fun w' vs zs as bs h1 h2 => AvA.appA h1 (AvA.rev h2)⟩
theorem b_none (F : FunD K "called" "called" (defArgs sCalled) (defBody sCalled) (defScope sCalled) [] kwC f fd) : ∃ ds, Binds K fd ["program", "hands", "boxes"] ds ∧ Vals (List.replicate 2 V.non) ds := by
  obtain ⟨ds, h1, h2⟩ := F.binds0 (ps := ["program", "hands", "boxes"]) 1 (List.cons_ne_nil _ _) rfl (fun D doc pm an cdv ct us ks l1 l2 => match us, ks, l1, l2 with | [_], [_, _], _, _ => by (refine ⟨_, _, _, _, _, _, rfl, rfl, _, _, _, _, _, _, rfl, rfl, ?_⟩; show (_ : Sem _) = _; rfl))
  exact ⟨ds, h2, h1⟩
end
end K61


namespace K61
open PySem PySem.Spec PyProof.Rows L2 Kp
abbrev sNamesOf : Stmt := top 29
/-- of one deed: its kinds are a tuple of the top -/
def cCal1 (K : PySem.W.Frag) : List AV → (AV → Prop) → Prop := fun as R => ∃ (p : Addr) (z : Str) (ks : List Kd) (rest : List PyData) (bs news : List Str), as = [.at_ p, .dat (.tuple (.str z :: rest)), .nmd (bs.zip (news.map .str))] ∧ WT K p (ks.map kdD) ∧ Parts bs z ks rest ∧ bs.Nodup ∧ news.length = bs.length ∧ R (.dat (renD (nF bs news) (.tuple (.str z :: rest))))
theorem kd_eqv (k : Kd) : PyData.eqv (kdD k) (.str "box") = isBox k := by
  cases k <;> rfl
theorem kds_ok {z : Str} {ks : List Kd} (h : kindsOf z = some ks) : noDA (ks.map kdD) = true ∧ SeqAt.shaped (.tuple (ks.map kdD)) = true := by
  unfold kindsOf at h
  repeat' (split at h)
  all_goals (try (cases h; done))
  all_goals (cases Option.some.inj h; exact ⟨by decide +kernel, by decide +kernel⟩)
theorem any_box {ks : List Kd} : ((ks.map kdD).any fun z => PyData.eqv z (.str "box")) = ks.any isBox := by
  rw [List.any_map]
  exact congrArg (fun f => ks.any f) (funext kd_eqv)
section
variable {base : Heap} {K : PySem.W.Frag} {w : World} {P : Program} {mg : Str → Option Value}
abbrev nCal1 : List Str := ["kinds", "parts", "names", "place"]
theorem scCal1 : FnScope nCal1 ["kinds", "parts", "names"] (defScope sCal) := ⟨rfl, rfl, rfl, by decide +kernel, rfl, by decide +kernel, by decide +kernel⟩
theorem d_cal1 (B : Blt mg) (F : Fn0 K mg "_called" sCal ["kinds", "parts", "names"]) : Dn P w K mg base "_called" 1 (cCal1 K) := by
  refine dn F scCal1 (fun as R ⟨_, _, _, _, _, _, e, _⟩ => by subst e; rfl) fun f cdv A outer s H E w0 as R hr hC => ?_
  obtain ⟨p, z, ks, rest, bs, news, rfl, hw, Pt, nd, hl, hR⟩ := hC
  obtain ⟨k1, k2⟩ := kds_ok Pt.kind
  show KSs _ _ _ [some (.at_ p), some (.dat (.tuple (.str z :: rest))), some (.nmd (bs.zip (news.map .str))), none] _
  refine ks_cons (ks_if (kt_cm (dc_ninW hr.u65) (k_str (k_var 0 rfl rfl ⟨_, p, _, rfl, rfl, hw, rfl, k1, (by decide +kernel), k2, ?_⟩))))
  rw [any_box]
  have tail : ∀ (i : Nat) (b : Str), ks.any isBox = true → (ks[i]? = some .box ∧ ∀ (m : Nat) (k : Kd), m < i → ks[m]? = some k → isBox k = false) → plOf z = some (i + 1) → rest[i]? = some (.str b) → b ∈ bs →
      iteP (!ks.any isBox) (KSs (cxB P w K mg base nCal1 "_called" (defScope sCal) f cdv A outer s H E) w0 ((match (defBody sCal).getD 0 (.Pass ⟨0, 0, 0, 0⟩) with | .If _ a _ _ => a | _ => [])) [some (.at_ p), some (.dat (.tuple (.str z :: rest))), some (.nmd (bs.zip (news.map .str))), none] { nx := fun ss' => KSs (cxB P w K mg base nCal1 "_called" (defScope sCal) f cdv A outer s H E) w0 ((defBody sCal).drop 1) ss' { nx := fun _ => R (.dat .none), rt := R }, rt := R })
        (KSs (cxB P w K mg base nCal1 "_called" (defScope sCal) f cdv A outer s H E) w0 [] [some (.at_ p), some (.dat (.tuple (.str z :: rest))), some (.nmd (bs.zip (news.map .str))), none] { nx := fun ss' => KSs (cxB P w K mg base nCal1 "_called" (defScope sCal) f cdv A outer s H E) w0 ((defBody sCal).drop 1) ss' { nx := fun _ => R (.dat .none), rt := R }, rt := R }) := fun i b hb hi hpl hrest hbm => by
    rw [hb]
    refine ks_nil ?_
    obtain ⟨hi1, hi2⟩ := hi
    obtain ⟨ne1, ne2⟩ := nF_mem nd hl hbm
    have lt : i < rest.length := (List.getElem?_eq_some_iff.mp hrest).1
    refine ks_cons (ks_set 3 scCal1.nd rfl (.inl rfl) (k_add (k_indexW hr.u65 (k_var 0 rfl rfl ⟨p, _, rfl, hw, k_str ⟨_, rfl, k1, rfl, k2, (by decide +kernel), i, kdD .box, by rw [List.getElem?_map, hi1]; rfl, rfl, fun m z' hm hz => ?_, k_int ?_⟩⟩))))
    · rw [List.getElem?_map] at hz
      cases q : ks[m]? with
      | none => rw [q] at hz; cases hz
      | some k =>
        rw [q] at hz
        rw [← Option.some.inj hz, kd_eqv]
        exact hi2 m k hm q
    show KSs _ _ _ [some (.at_ p), some (.dat (.tuple (.str z :: rest))), some (.nmd (bs.zip (news.map .str))), some (.dat (.int ((i : Int) + 1)))] _
    refine ks_one (ks_ret (k_add (k_add (k_slc (k_var 1 rfl rfl (ko_none (ko_some (k_var 3 rfl rfl ?_))))))))
    refine k_tup (ka_cons (k_nsub (Nat.lt_of_le_of_lt (Nat.add_le_add_left (by decide : 1 ≤ 65) _) hr.u65) (fun _ _ => rfl) (k_var 2 rfl rfl ⟨_, rfl, k_idx (fun _ _ => rfl) (k_var 1 rfl rfl (k_var 3 rfl rfl ⟨.str b, ?_, b, .str (nF bs news b), rfl, ne1, ?_⟩))⟩)))
    · have e : ((i : Int) + 1) = ((i + 1 : Nat) : Int) := rfl
      rw [e]
      exact atI_nat (by simpa using hrest)
    refine ka_nil ⟨Nat.le_of_ble_eq_true rfl, ?_⟩
    have e : ((i : Int) + 1) = ((i + 1 : Nat) : Int) := rfl
    have e2 : ((i : Int) + 1 + 1) = ((i + 2 : Nat) : Int) := by omega
    have hl5 := kindsOf_len z ks Pt.kind
    have hlr := Pt.len
    have c1 : cutD (.str z :: rest) none (some ((i : Int) + 1)) = (.str z :: rest).take (i + 1) := by rw [e, cut_take (by rw [List.length_cons]; omega)]
    have c2 : cutD (.str z :: rest) (some ((i : Int) + 1 + 1)) none = (.str z :: rest).drop (i + 2) := by rw [e2, cut_drop (by rw [List.length_cons]; omega)]
    refine ⟨?_, ?_⟩
    · rw [c1, List.length_take, List.length_cons, List.length_singleton]
      omega
    refine k_slc (k_var 1 rfl rfl (ko_some (k_add (k_var 3 rfl rfl (k_int (ko_none ?_))))))
    refine ⟨?_, ?_⟩
    · rw [c1, c2, List.length_append, List.length_take, List.length_drop, List.length_cons, List.length_singleton]
      omega
    · rw [c1, c2]
      have hR : R (.dat (match plOf z with | none => .tuple (.str z :: rest) | some p => .tuple ((PyData.str z :: rest).set p (strF (nF bs news) ((PyData.str z :: rest).getD p .none))))) := hR
      rw [hpl] at hR
      have e3 : (PyData.str z :: rest).getD (i + 1) .none = .str b := by
        rw [List.getD_eq_getElem?_getD]
        rw [show (PyData.str z :: rest)[i + 1]? = some (.str b) by simpa using hrest]
        rfl
      have hR : R (.dat (.tuple ((PyData.str z :: rest).set (i + 1) (strF (nF bs news) ((PyData.str z :: rest).getD (i + 1) .none))))) := hR
      rw [e3, List.set_eq_take_append_cons_drop, if_pos (by rw [List.length_cons]; omega)] at hR
      rw [List.append_assoc]
      exact hR
  rcases kinds_nine Pt.kind with ⟨e1, _, hno⟩ | ⟨_, e1, r, ek, hno⟩ | ⟨_, _, _, _, e1, k0, r, ek, h0, hno⟩
  · have hb : ks.any isBox = false := by
      rw [List.any_eq_false]
      intro k hk
      rw [hno k hk]
      exact Bool.false_ne_true
    rw [hb]
    refine ks_one (ks_ret (k_var 1 rfl rfl ?_))
    have hR : R (.dat (match plOf z with | none => .tuple (.str z :: rest) | some p => .tuple ((PyData.str z :: rest).set p (strF (nF bs news) ((PyData.str z :: rest).getD p .none))))) := hR
    rw [e1] at hR
    exact hR
  · subst ek
    have hlen := Pt.len
    match rest, hlen, Pt, tail with
    | x :: rest, hlen, Pt, tail =>
      obtain ⟨b, rfl, hb⟩ := fits_box (Pt.fit (.box, x) (by rw [List.zip_cons_cons]; exact List.mem_cons_self))
      exact tail 0 b rfl ⟨rfl, fun m k hm => absurd hm (Nat.not_lt_zero _)⟩ e1 rfl hb
  · subst ek
    have hlen := Pt.len
    match rest, hlen, Pt, tail with
    | y :: x :: rest, hlen, Pt, tail =>
      obtain ⟨b, rfl, hb⟩ := fits_box (Pt.fit (.box, x) (by rw [List.zip_cons_cons, List.zip_cons_cons]; exact List.mem_cons_of_mem _ List.mem_cons_self))
      refine tail 1 b (by show (isBox k0 || (true || _)) = true; rw [h0]; rfl) ⟨rfl, fun m k hm hk => ?_⟩ e1 rfl hb
      have : m = 0 := by omega
      subst this
      cases Option.some.inj hk
      exact h0
end
end K61


namespace K61
open PySem PySem.Spec PyProof.Rows L2 Kp
section
variable {X : Cx} {w0 : Wl} {ss : SS}
/-- look_at of a program -/
theorem k_lookG {C0 : Addr} {j : Nat} {e : Expr} {p pos : Pos} {R : AV → Prop} (D : DnX X.prog X.w X.K X.mg X.base "look_at" 7 (cLook C0)) (hr : Room j X.A) (hk : 7 ≤ j) (hg : Gl X "look_at")
    (h : KA X w0 [e] ss fun as => as.all AV.plain = true ∧ ∃ d, as = [.dat d] ∧ okP d ∧ dueLook d = none ∧ R (.dat .none)) (he : starEach [e] X.env = (false, eval e X.env) :: starEach [] X.env := by rfl) (hpl : (backTo pos (starEach [] X.env)).any (·.1) = false := by rfl) :
    KE X w0 (.Call (.Name "look_at" p) [e] [] pos) ss R :=
  k_cdx (RX := fun _ _ => False) (E := fun _ _ _ => False) D hr hk hg L2.takes0 (fun _ _ _ _ _ _ _ _ _ _ h => h.elim) (PA.imp h fun σ H Q ⟨w, ew, hsl, q⟩ => ⟨w, ew, hsl, fun vs as w' l x y => q vs as w' l x (by
    obtain ⟨hp, d, rfl, ok, due, hr⟩ := y
    refine ⟨hp, d, rfl, ok, ?_⟩
    unfold outF
    rw [due]
    exact hr)⟩) (by decide) he hpl
end
def EffO (n : Nat) (oD : PyData) (os : List Nat) : Prop := (oD = .none ∧ os = List.range n) ∨ (oD = .list (natD os) ∧ Od n os)
def EffN (bs : List Str) (nD : PyData) (news : List Str) : Prop := (nD = .none ∧ news = bs) ∨ (nD = .list (news.map .str) ∧ Nw bs news)
theorem EffO.od {n : Nat} {oD : PyData} {os : List Nat} (h : EffO n oD os) : Od n os := by
  rcases h with ⟨_, rfl⟩ | ⟨_, h⟩
  · exact ⟨List.Perm.refl _⟩
  · exact h
theorem Pv.nw {bs : List Str} {hs : List (List PyData)} (h : Pv bs hs) : Nw bs bs := ⟨rfl, h.nd, h.nm⟩
theorem EffN.nw {bs : List Str} {hs : List (List PyData)} {nD : PyData} {news : List Str} (P : Pv bs hs) (h : EffN bs nD news) : Nw bs news := by
  rcases h with ⟨_, rfl⟩ | ⟨_, h⟩
  · exact P.nw
  · exact h
def cNamesM : Store → List AV → (Store → AV → Prop) → Prop := fun st as R => ∃ (bs : List Str) (hs : List (List PyData)) (oD nD : PyData) (os : List Nat) (news : List Str), as = [.dat (progD bs hs), .dat oD, .dat nD] ∧ Pv bs hs ∧ EffO hs.length oD os ∧ EffN bs nD news ∧
  ∀ t, Fresh st t → R ((t, Ck.tup, [.dat (.list (natD os)), .nmd (bs.zip (news.map .str))]) :: st) (.at_ t)
section
variable {base : Heap} {K : PySem.W.Frag} {w : World} {P : Program} {mg : Str → Option Value}
abbrev nNamesOf : List Str := ["program", "hands", "boxes", "olds", "deeds", "order", "box", "name"]
theorem scNamesOf : FnScope nNamesOf ["program", "hands", "boxes"] (defScope sNamesOf) := ⟨rfl, rfl, rfl, by decide +kernel, rfl, by decide +kernel, by decide +kernel⟩
theorem d_namesof {C0 : Addr} (B : Blt mg) (D1 : DnX P w K mg base "look_at" 7 (cLook C0)) (D2 : Dn P w K mg base "is_order" 2 cOrdT) (D3 : Dn P w K mg base "_are_names" 2 cNmT) (F : Fn0 K mg "_names_of" sNamesOf ["program", "hands", "boxes"]) : DnM P w K mg base "_names_of" 8 cNamesM := by
  refine dnM F scNamesOf (fun st as R ⟨_, _, _, _, _, _, e, _⟩ => by subst e; rfl) fun f cdv A outer s H E w0 st as R hr hC => ?_
  obtain ⟨bs, hs, oD, nD, os, news, rfl, Pp, hO, hN, hR⟩ := hC
  show MSs _ _ _ st [some (.dat (progD bs hs)), some (.dat oD), some (.dat nD), none, none, none, none, none] _
  refine m_cons (m_lift (ks_ex (k_lookG D1 hr (by decide) rfl (ka_cons (k_var 0 rfl rfl (ka_nil ⟨rfl, _, rfl, Pp.okp, Pp.due, ?_⟩))))))
  refine m_cons (m_lift (ks_asg (g := gTup K 2 (gCons (gName 3) (gCons (gName 4) gNil))) (tgok2 3 4 (by decide)) (pg_tup rfl (pgs_cons (pg_name (i := 3) scNamesOf.nd rfl (Or.inl rfl)) (pgs_cons (pg_name (i := 4) scNamesOf.nd rfl (Or.inl rfl)) pgs_nil))) (k_var 0 rfl rfl ?_)))
  show MSs _ _ _ st [some (.dat (progD bs hs)), some (.dat oD), some (.dat nD), some (.dat (.list (bs.map .str))), some (.dat (.list (hs.map .list))), none, none, none] _
  have h4 := Pp.h4
  have b4 := Pp.b1
  let SS1 : SS := [some (.dat (progD bs hs)), some (.dat oD), some (.dat nD), some (.dat (.list (bs.map .str))), some (.dat (.list (hs.map .list))), none, none, none]
  refine m_mid (fun st' ss' => st' = st ∧ ss' = SS1) (m_if (kt_w (kw_and (kt_cm dc_isnt (k_var 1 rfl rfl (k_non ?_)))))) ?_
  · rcases hO with ⟨rfl, _⟩ | ⟨rfl, ho⟩
    · exact m_nil ⟨rfl, rfl⟩
    · refine kw_and1 (kt_not (kt_val (k_cd D2 hr (by decide) rfl (ka_cons (k_var 1 rfl rfl (ka_cons (k_cB dl_len rfl B.len b_len (ka_cons (k_var 4 rfl rfl (ka_nil (ka_nil ⟨rfl, hs.length, os, ?_, ho, by omega, m_nil ⟨rfl, rfl⟩⟩)))))))))))
      rw [List.length_map]
  rintro st' ss' ⟨rfl, rfl⟩
  refine m_mid (fun st2 ss' => st2 = st' ∧ ss' = SS1) (m_if (kt_w (kw_and (kt_cm dc_isnt (k_var 2 rfl rfl (k_non ?_)))))) ?_
  · rcases hN with ⟨rfl, _⟩ | ⟨rfl, hn⟩
    · exact m_nil ⟨rfl, rfl⟩
    · refine kw_and1 (kt_not (kt_val (k_cd D3 hr (by decide) rfl (ka_cons (k_var 2 rfl rfl (ka_cons (k_cB dl_len rfl B.len b_len (ka_cons (k_var 3 rfl rfl (ka_nil (ka_nil ⟨rfl, bs.length, news, ?_, hn.len, hn.nd, hn.nm, by omega, m_nil ⟨rfl, rfl⟩⟩)))))))))))
      rw [List.length_map]
  rintro st2 ss' ⟨rfl, rfl⟩
  refine m_cons (m_lift (ks_set 5 scNamesOf.nd rfl (.inl rfl) (KE.weak (R := fun a => a = .dat (.list (natD os))) (k_ifE (kt_cm dc_is (k_var 1 rfl rfl (k_non ?_)))) fun a ha => ?_)))
  · rcases hO with ⟨rfl, rfl⟩ | ⟨rfl, ho⟩
    · refine k_ofN (kn_rng rfl rfl B.list rfl B.range (k_cB dl_len rfl B.len b_len (ka_cons (k_var 4 rfl rfl (ka_nil ⟨?_, ?_, ?_⟩)))))
      · omega
      · rw [List.length_map]; omega
      · show AV.dat _ = _
        rw [List.length_map, Int.toNat_natCast, range_natD]
    · exact k_var 1 rfl rfl rfl
  subst ha
  show MSs _ _ _ st2 [some (.dat (progD bs hs)), some (.dat oD), some (.dat nD), some (.dat (.list (bs.map .str))), some (.dat (.list (hs.map .list))), some (.dat (.list (natD os))), none, none] _
  have hnw := EffN.nw Pp hN
  refine m_one (m_retM (me_tup2 (me_lift (k_var 5 rfl rfl (me_lift (k_dcN (own := [("box", 6), ("name", 7)]) (g := gTup K 2 (gCons (gName 6) (gCons (gName 7) gNil))) rfl scNamesOf.nd (blkOk_by (N := nNamesOf) (sc := defScope sNamesOf) (by decide +kernel)) (tgok2 6 7 (by decide)) (fun _ _ _ _ _ => pg_tup rfl (pgs_cons (pg_name (i := 6) scNamesOf.nd rfl (Or.inl rfl)) (pgs_cons (pg_name (i := 7) scNamesOf.nd rfl (Or.inl rfl)) pgs_nil))) (ki_zipL rfl B.zip (ka_cons (k_var 3 rfl rfl (ka_cons (KE.weak (R := fun a => a = .dat (.list (news.map .str))) (k_ifE (kt_cm dc_is (k_var 2 rfl rfl (k_non ?_)))) fun a ha => ?_)))))))))))
  · rcases hN with ⟨rfl, rfl⟩ | ⟨rfl, hn⟩
    · exact k_var 3 rfl rfl rfl
    · exact k_var 2 rfl rfl rfl
  subst ha
  have hz : (bs.map PyData.str).length = (news.map PyData.str).length := by rw [List.length_map, List.length_map, hnw.len]
  refine ka_nil ⟨bs.map .str, news.map .str, rfl, hz, ?_, fun i m => m = (bs.zip (news.map .str)).take i, rfl, fun i d m hd hp => ?_, fun m hm => ⟨rfl, rfl, fun t ft => ?_⟩⟩
  · rw [List.length_map, List.length_zip, List.length_map]; omega
  · subst hp
    rw [List.getElem?_map] at hd
    cases hzp : ((bs.map PyData.str).zip (news.map PyData.str))[i]? with
    | none => rw [hzp] at hd; cases hd
    | some y =>
      rw [hzp] at hd
      obtain ⟨z1, z2⟩ := List.getElem?_zip_eq_some.mp hzp
      rw [List.getElem?_map] at z1 z2
      cases hb : bs[i]? with
      | none => rw [hb] at z1; cases z1
      | some b =>
        cases hc : news[i]? with
        | none => rw [hc] at z2; cases z2
        | some c =>
          rw [hb] at z1
          rw [hc] at z2
          have hd : d = .tuple [.str b, .str c] := by
            rw [← Option.some.inj hd]
            show PyData.tuple [y.1, y.2] = _
            rw [← Option.some.inj z1, ← Option.some.inj z2]
          subst hd
          show BE _ _ _ _ [some (.dat (progD bs hs)), some (.dat oD), some (.dat nD), some (.dat (.list (bs.map .str))), some (.dat (.list (hs.map .list))), some (.dat (.list (natD os))), some (.dat (.str b)), some (.dat (.str c))] _
          refine fun _ _ _ _ _ => k_var 6 rfl rfl ⟨b, rfl, fun hm => ?_, fun _ _ _ _ _ => k_var 7 rfl rfl ?_⟩
          · have e : ((bs.zip (news.map PyData.str)).take i).map (·.1) = bs.take i := by rw [List.map_take, List.map_fst_zip (by rw [List.length_map, hnw.len]; exact Nat.le_refl _)]
            rw [e] at hm
            obtain ⟨j, hj⟩ := List.mem_iff_getElem?.mp hm
            rw [List.getElem?_take] at hj
            split at hj
            · rename_i hji
              have : j = i := (List.getElem?_inj (List.getElem?_eq_some_iff.mp hj).1 Pp.nd).mp (hj.trans hb.symm)
              omega
            · cases hj
          · show _ = _
            have : (bs.zip (news.map PyData.str))[i]? = some (b, .str c) := List.getElem?_zip_eq_some.mpr ⟨hb, by rw [List.getElem?_map, hc]; rfl⟩
            rw [List.take_add_one, this]
            rfl
  · subst hm
    have e : (((bs.map PyData.str).zip (news.map PyData.str)).map fun x => PyData.tuple [x.1, x.2]).length = (bs.zip (news.map PyData.str)).length := by
      rw [List.length_map, List.length_zip, List.length_zip, List.length_map]
    rw [e, List.take_length]
    exact hR t ft
end
end K61


namespace K61
open PySem PySem.Spec PyProof.Rows L2 Kp
/-- what is told of a program called otherwise, in the store -/
structure CalAt (st : Store) (t a p : Addr) (qs : List Addr) (zs : List Str) (hs2 : List (List PyData)) : Prop where
  tup : (t, Ck.tup, [AV.at_ a, AV.at_ p]) ∈ st
  bxs : (a, Ck.lst, (zs.map PyData.str).map AV.dat) ∈ st
  hds : LL st p hs2 qs
  ne : a ∉ p :: qs
def cCalM : Store → List AV → (Store → AV → Prop) → Prop := fun st as R => ∃ (bs : List Str) (hs : List (List PyData)) (oD nD : PyData) (os : List Nat) (news : List Str), as = [.dat (progD bs hs), .dat oD, .dat nD] ∧ Pv bs hs ∧ EffO hs.length oD os ∧ EffN bs nD news ∧
  ∀ st' t a p qs zs, zs.Perm news → sortedS zs = true → CalAt st' t a p qs zs (calH (nF bs news) hs os) → R st' (.at_ t)
def cCal : List AV → (AV → Prop) → Prop := fun as R => ∃ (bs : List Str) (hs : List (List PyData)) (oD nD : PyData) (os : List Nat) (news : List Str), as = [.dat (progD bs hs), .dat oD, .dat nD] ∧ Pv bs hs ∧ EffO hs.length oD os ∧ EffN bs nD news ∧
  ∀ zs, zs.Perm news → sortedS zs = true → R (.dat (progD zs (calH (nF bs news) hs os)))
theorem cal_data : DatOf cCalM cCal := fun as R ⟨bs, hs, oD, nD, os, news, e, Pp, hO, hN, hR⟩ => ⟨bs, hs, oD, nD, os, news, e, Pp, hO, hN, fun st' t a p qs zs hp hu C => .inl ⟨_, .tup C.tup (.cons (.lst C.bxs SplA.dats) (.cons C.hds.spell .nil)), hR zs hp hu⟩⟩
section
variable {base : Heap} {K : PySem.W.Frag} {w : World} {P : Program} {mg : Str → Option Value}
abbrev nCalled : List Str := ["program", "hands", "boxes", "order", "names", "_", "deeds", "lines", "deed", "hand"]
theorem scCalled : FnScope nCalled ["program", "hands", "boxes"] (defScope sCalled) := ⟨rfl, rfl, rfl, by decide +kernel, rfl, by decide +kernel, by decide +kernel⟩
theorem d_called {dA : Addr} {es : Array DictEntry} {n : Nat} (B : Blt mg) (KD : KDict K w dA es n) (gD : mg "DEEDS" = some (.ref dA)) (hW : ∀ z ks, kindsOf z = some ks → ∃ p, PySem.W.nsIn K dA z = some (some (.ref p)) ∧ WT K p (ks.map kdD))
    (D1 : DnM P w K mg base "_names_of" 8 cNamesM) (D2 : Dn P w K mg base "_olds" 1 cOlds) (D3 : Dn P w K mg base "_called" 1 (cCal1 K)) (F : FnD0 K mg "called" sCalled kwC) : ∃ f fd, DefM P w K mg base "called" sCalled kwC ["program", "hands", "boxes"] 9 cCalM f fd := by
  refine defM F scCalled (fun st as R ⟨_, _, _, _, _, _, e, _⟩ => by subst e; rfl) fun f cdv A outer s H E w0 st as R hr hC => ?_
  obtain ⟨bs, hs, oD, nD, os, news, rfl, Pp, hO, hN, hR⟩ := hC
  have ho := hO.od
  have hnw := EffN.nw Pp hN
  have h4 := Pp.h4
  have b4 := Pp.b1
  show MSs _ _ _ st [some (.dat (progD bs hs)), some (.dat oD), some (.dat nD), none, none, none, none, none, none, none] _
  refine m_cons (m_unp2 3 4 (pg_tup rfl (pgs_cons (pg_name (i := 3) scCalled.nd rfl (Or.inl rfl)) (pgs_cons (pg_name (i := 4) scCalled.nd rfl (Or.inr rfl)) pgs_nil))) (me_call D1 hr (by decide) rfl (ka_cons (k_var 0 rfl rfl (ka_cons (k_var 1 rfl rfl (ka_cons (k_var 2 rfl rfl (ka_nil ⟨rfl, bs, hs, oD, nD, os, news, rfl, Pp, hO, hN, fun t ft => ⟨t, _, _, rfl, List.mem_cons_self, ?_⟩⟩)))))))))
  refine m_clear ?_
  show MSs _ _ _ [] [some (.dat (progD bs hs)), some (.dat oD), some (.dat nD), some (.dat (.list (natD os))), some (.nmd (bs.zip (news.map .str))), none, none, none, none, none] _
  refine m_cons (m_lift (ks_asg (g := gTup K 2 (gCons (gName 5) (gCons (gName 6) gNil))) (tgok2 5 6 (by decide)) (pg_tup rfl (pgs_cons (pg_name (i := 5) scCalled.nd rfl (Or.inl rfl)) (pgs_cons (pg_name (i := 6) scCalled.nd rfl (Or.inr rfl)) pgs_nil))) (k_var 0 rfl rfl ?_)))
  show MSs _ _ _ [] [some (.dat (progD bs hs)), some (.dat oD), some (.dat nD), some (.dat (.list (natD os))), some (.nmd (bs.zip (news.map .str))), some (.dat (.list (bs.map .str))), some (.dat (.list (hs.map .list))), none, none, none] _
  refine m_cons (m_setLcL 7 (own := [("hand", 9)]) (g := gName 9) rfl scCalled.nd rfl rfl rfl (blkOk_by (N := nCalled) (sc := defScope sCalled) (by decide +kernel)) (fun _ => tgok1 9) (tg1_weak 9) (fun _ _ _ _ _ => pg_name (i := 9) scCalled.nd rfl (Or.inl rfl))
    (ki_list (k_cd D2 hr (by decide) rfl (ka_cons (k_var 3 rfl rfl (ka_nil ⟨rfl, hs.length, os, rfl, ho, h4.2, ?_⟩))))))
  have hil : (invO os).length = hs.length := by unfold invO; rw [List.length_map, List.length_range, ho.len]
  refine ⟨by rw [natD_len, hil]; omega, fun i dss => dss = (calH (nF bs news) hs os).take i, by rfl, fun i d st' acc hd hst hp => ?_, fun dss hp st' p qs HL hsub hfr => ?_⟩
  · subst hp
    obtain ⟨j, hj, rfl⟩ := natD_at hd
    have hi : i < hs.length := by rw [← hil]; exact (List.getElem?_eq_some_iff.mp hj).1
    rw [ho.inv_at hi] at hj
    cases Option.some.inj hj
    obtain ⟨l, hl1, hl2⟩ := calH_at (f := nF bs news) ho hi
    have hlm := List.mem_of_getElem? hl1
    have hlf := Pp.few l hlm
    refine fun _ _ _ _ _ => kn_lc (own := [("deed", 8)]) rfl scCalled.nd (BlkOk.relab (blkOk_by (N := nCalled) (by decide +kernel))) (tgok1 8) (fun _ _ _ _ _ => pg_name (i := 8) scCalled.nd rfl (Or.inl rfl)) (ki_list (k_idx (fun _ _ => rfl) (k_var 6 rfl rfl (k_var 9 rfl rfl ⟨.list l, ?_, ?_⟩))))
    · exact atI_nat (by rw [List.getElem?_map, hl1]; rfl)
    refine ⟨by omega, fun k es => es = (l.map (renD (nF bs news))).take k, by rfl, fun k d acc2 hd2 hp2 => ?_, fun es hes => ?_⟩
    · subst hp2
      have hdm := List.mem_of_getElem? hd2
      have G := Pp.gd l hlm d hdm
      obtain ⟨z, ks, rest, rfl, Pt⟩ := parts_of G.1
      obtain ⟨p, hp1, hp2⟩ := hW z ks Pt.kind
      refine fun _ _ _ _ _ => k_cd D3 hr (by decide) rfl (ka_cons (k_ixKdA KD rfl gD (fun _ _ => rfl) (k_idx (fun _ _ => rfl) (k_var 8 rfl rfl (k_int ⟨_, atI_nat (j := 0) rfl, z, p, rfl, hp1, ka_cons (k_var 8 rfl rfl (ka_cons (k_var 4 rfl rfl (ka_nil ⟨rfl, p, z, ks, rest, bs, news, rfl, hp2, Pt, Pp.nd, hnw.len, ?_⟩))))⟩)))))
      show _ = _
      rw [List.take_add_one, List.getElem?_map, hd2]
      rfl
    · subst hes
      show _ = _
      rw [← List.length_map (f := renD (nF bs news)), List.take_length, List.take_add_one, hl2]
      rfl
  subst hp
  rw [natD_len, hil, ← ho.len, ← calH_len (nF bs news) hs os, List.take_length] at HL
  show MSs _ _ _ st' [some (.dat (progD bs hs)), some (.dat oD), some (.dat nD), some (.dat (.list (natD os))), some (.nmd (bs.zip (news.map .str))), some (.dat (.list (bs.map .str))), some (.dat (.list (hs.map .list))), some (.at_ p), none, none] _
  refine m_one (m_retM (me_tup2 (me_new (mn_kn (kn_sortVals rfl rfl B.sorted (k_var 4 rfl rfl ⟨_, news, rfl, ?_, by have := hnw.len; omega, fun zs hp hu a fa => me_lift (k_var 7 rfl rfl ⟨rfl, rfl, fun t ft => ?_⟩)⟩))))))
  · exact List.map_snd_zip (by rw [List.length_map, hnw.len]; exact Nat.le_refl _)
  refine hR _ t a p qs zs hp hu ⟨List.mem_cons_self, List.mem_cons_of_mem _ List.mem_cons_self, HL.mono fun x hx => List.mem_cons_of_mem _ (List.mem_cons_of_mem _ hx), fun hm => ?_⟩
  rcases List.mem_cons.mp hm with e | m
  · exact fa _ HL.mp e.symm
  · obtain ⟨j, hj⟩ := List.mem_iff_getElem?.mp m
    have lt : j < (calH (nF bs news) hs os).length := by rw [← HL.len]; exact (List.getElem?_eq_some_iff.mp hj).1
    exact fa _ (HL.mq j a _ hj (List.getElem?_eq_getElem lt)) rfl
end
end K61


namespace K61
open PySem PySem.Spec PyProof.Rows L2 Kp
abbrev lOrder : Stmt := top 39
abbrev lNewN : Stmt := top 40
abbrev lDeedBy : Stmt := top 41
def cLOrdM : Store → List AV → (Store → AV → Prop) → Prop := fun st as R => ∃ n : Nat, as = [.pool, .dat (.int (n : Int))] ∧ st = [] ∧ n ≤ 4 ∧ ∀ st' p os, Od n os → (p, Ck.lst, (natD os).map AV.dat) ∈ st' → R st' (.at_ p)
def cLOrd : List AV → (AV → Prop) → Prop := fun as R => ∃ n : Nat, as = [.pool, .dat (.int (n : Int))] ∧ n ≤ 4 ∧ ∀ os, Od n os → R (.dat (.list (natD os)))
theorem erase_map {α β : Type} (f : α → β) : ∀ (l : List α) (i : Nat), (l.map f).eraseIdx i = (l.eraseIdx i).map f := map_erase f
section
variable {base : Heap} {K : PySem.W.Frag} {w : World} {P : Program} {mg : Str → Option Value}
abbrev nLOrd : List Str := ["_law_pool_here", "_law_size", "_law_left", "_law_turn"]
theorem scLOrd : FnScope nLOrd ["_law_pool_here", "_law_size"] (defScope lOrder) := ⟨rfl, rfl, rfl, by decide +kernel, rfl, by decide +kernel, by decide +kernel⟩
theorem l_order (B : Blt mg) (Dt : Dn P w K mg base "_law_take" 1 cTake) (F : Fn0 K mg "_law_order" lOrder ["_law_pool_here", "_law_size"]) : DnM P w K mg base "_law_order" 2 cLOrdM := by
  refine dnM F scLOrd (fun st as R ⟨_, e, _⟩ => by subst e; rfl) fun f cdv A outer s H E w0 st as R hr hC => ?_
  obtain ⟨n, rfl, rfl, hn, hR⟩ := hC
  show MSs _ _ _ [] [some .pool, some (.dat (.int (n : Int))), none, none] _
  refine m_cons (m_setM 2 scLOrd.nd rfl (.inr rfl) (me_new (mn_kn (kn_rng rfl rfl B.list rfl B.range (k_var 1 rfl rfl ⟨by omega, by omega, fun L fL => ?_⟩)))))
  rw [Int.toNat_natCast, range_natD]
  show MSs _ _ _ [(L, Ck.lst, (natD (List.range n)).map AV.dat)] [some .pool, some (.dat (.int (n : Int))), some (.at_ L), none] _
  refine m_one (m_retM (me_lcM (own := [("_law_turn", 3)]) (g := gName 3) rfl scLOrd.nd rfl (blkOk_by (N := nLOrd) (sc := defScope lOrder) (by decide +kernel)) (fun _ => tgok1 3) (fun _ _ _ _ _ => pg_name (i := 3) scLOrd.nd rfl (Or.inl rfl)) (ki_rng1 rfl B.range (k_var 1 rfl rfl ⟨by omega, by omega, ?_⟩))))
  refine ⟨by rw [rangeD_len]; omega, fun D i st' acc => ∃ got left : List Nat, acc = (natD got).map AV.dat ∧ (L, Ck.lst, (natD left).map AV.dat) ∈ st' ∧ got.length = i ∧ (got ++ left).Perm (List.range n) ∧ D ≠ L,
    fun D fD => ⟨[], List.range n, rfl, List.mem_cons_of_mem _ List.mem_cons_self, rfl, List.Perm.refl _, fun e => fD _ List.mem_cons_self e.symm⟩, fun D i d st' acc hd hD hI => ?_, fun D st' acc hD hI => ?_⟩
  · obtain ⟨got, left, rfl, hL, hg, hp, ne⟩ := hI
    obtain ⟨hi, rfl⟩ := rangeD_at hd
    rw [Int.toNat_natCast] at hi
    have hlen : got.length + left.length = n := by
      have := hp.length_eq
      rw [List.length_append, List.length_range] at this
      exact this
    refine fun _ _ _ _ _ => me_popAt (k_var 2 rfl rfl ⟨L, _, rfl, hL, me_lift (k_tmp (ss' := [some .pool, some (.dat (.int (n : Int))), some (.dat (.list (natD left))), some (.dat (.int (0 + (i : Int))))]) ?_ (k_take 0 Dt hr (by decide) rfl rfl rfl (k_cB dl_len rfl B.len b_len (ka_cons (k_var 2 rfl rfl (ka_nil ⟨?_, ?_, fun r hr1 => ⟨rfl, ?_⟩⟩))))))⟩)
    · exact Thaw.refl.set (i := 2) rfl (.lst hL SplA.dats)
    · rw [natD_len]; omega
    · rw [natD_len]; omega
    rw [natD_len] at hr1
    have hr2 : r < left.length := by omega
    refine ⟨_, r, .dat (.int (left[r] : Nat)), hL, rfl, ?_, ?_, ?_⟩
    · unfold natD
      rw [List.map_map, List.getElem?_map, List.getElem?_eq_getElem hr2]
      rfl
    · rw [List.length_map, natD_len]; omega
    have e1 : ((natD left).map AV.dat).eraseIdx r = (natD (left.eraseIdx r)).map AV.dat := by
      unfold natD
      rw [erase_map, erase_map]
    rw [e1]
    refine ⟨stSet_ne hD ne, got ++ [left[r]], left.eraseIdx r, ?_, stSet_ne (stSet_at hL) ne.symm, by rw [List.length_append, hg]; rfl, ?_, ne⟩
    · unfold natD
      rw [List.map_append, List.map_append]
      rfl
    · refine List.Perm.trans ?_ hp
      rw [List.append_assoc]
      exact List.Perm.append_left _ (perm_erase hr2)
  · obtain ⟨got, left, rfl, hL, hg, hp, ne⟩ := hI
    rw [rangeD_len, Int.toNat_natCast] at hg
    have hlen : got.length + left.length = n := by
      have := hp.length_eq
      rw [List.length_append, List.length_range] at this
      exact this
    have e : left = [] := List.length_eq_zero_iff.mp (by omega)
    subst e
    rw [List.append_nil] at hp
    exact hR st' D got ⟨hp⟩ hD
theorem l_orderD (D : DnM P w K mg base "_law_order" 2 cLOrdM) : Dn P w K mg base "_law_order" 2 cLOrd := D.data fun as R ⟨n, e, hn, hR⟩ => ⟨n, e, rfl, hn, fun st' p os ho hp => ⟨_, .lst hp SplA.dats, hR os ho⟩⟩
def cNewN : List AV → (AV → Prop) → Prop := fun as R => ∃ bs hs, as = [.pool, .dat (progD bs hs)] ∧ Pv bs hs ∧ ∀ news, Nw bs news → R (.dat (.list (news.map .str)))
def moreN : List Str := ["a", "z", "hand", "row", "zzzzzz", "start"]
theorem moreN_ok : ∀ z ∈ moreN, nameB (.str z) = true ∧ short z = true := by
  have h : (moreN.all fun z => nameB (.str z) && short z) = true := by decide +kernel
  intro z hz
  have q := List.all_eq_true.mp h z hz
  rw [Bool.and_eq_true] at q
  exact q
abbrev nNewN : List Str := ["_law_pool_here", "_law_program", "_law_menu", "_law_k", "_law_name"]
theorem scNewN : FnScope nNewN ["_law_pool_here", "_law_program"] (defScope lNewN) := ⟨rfl, rfl, rfl, by decide +kernel, rfl, by decide +kernel, by decide +kernel⟩
theorem l_newn (B : Blt mg) (he : mg "enumerate" = none) (Dp : Dn P w K mg base "_law_picked" 2 cPicked) (F : Fn0 K mg "_law_new_names" lNewN ["_law_pool_here", "_law_program"]) : Dn P w K mg base "_law_new_names" 3 cNewN := by
  refine dn F scNewN (fun as R ⟨_, _, e, _⟩ => by subst e; rfl) fun f cdv A outer s H E w0 as R hr hC => ?_
  obtain ⟨bs, hs, rfl, Pp, hR⟩ := hC
  have b4 := Pp.b1
  show KSs _ _ _ [some .pool, some (.dat (progD bs hs)), none, none, none] _
  refine ks_cons (ks_set 2 scNewN.nd rfl (.inr rfl) (k_add (k_idx (fun _ _ => rfl) (k_var 1 rfl rfl (k_int ⟨_, atI_nat (j := 0) rfl, k_strs (zs := moreN) rfl (by decide) ⟨?_, ?_⟩⟩)))))
  · rw [List.length_map, List.length_map]; show bs.length + 6 ≤ _; omega
  have ev : bs.map PyData.str ++ moreN.map PyData.str = (bs ++ moreN).map PyData.str := List.map_append.symm
  rw [ev]
  generalize hl : bs ++ moreN = l
  have hl10 : l.length ≤ 10 := by rw [← hl, List.length_append]; show bs.length + 6 ≤ _; omega
  show KSs _ _ _ [some .pool, some (.dat (progD bs hs)), some (.dat (.list (l.map .str))), none, none] _
  refine ks_cons (ks_set 2 scNewN.nd rfl (.inr rfl) (k_ofN (kn_lc (own := [("_law_k", 3), ("_law_name", 4)]) rfl scNewN.nd (blkOk_by (N := nNewN) (sc := defScope lNewN) (by decide +kernel)) (tgok2 3 4 (by decide)) (fun _ _ _ _ _ => pg_tup rfl (pgs_cons (pg_name (i := 3) scNewN.nd rfl (Or.inl rfl)) (pgs_cons (pg_name (i := 4) scNewN.nd rfl (Or.inl rfl)) pgs_nil))) (ki_enum rfl he (k_var 2 rfl rfl ?_)))))
  refine ⟨by rw [enumD_len, List.length_map]; omega, fun i es => ∃ ms : List Str, es = ms.map .str ∧ ms.Nodup ∧ (∀ z, z ∈ ms ↔ z ∈ l.take i) ∧ ms.length ≤ i, ⟨[], rfl, List.nodup_nil, fun z => by simp, Nat.le_refl _⟩, fun i d acc hd hp => ?_, fun es hes => ?_⟩
  · obtain ⟨x, hx, rfl⟩ := enumD_at hd
    rw [List.getElem?_map] at hx
    cases hz : l[i]? with
    | none => rw [hz] at hx; cases hx
    | some z =>
      rw [hz] at hx
      cases Option.some.inj hx
      obtain ⟨ms, rfl, m1, m2, m3⟩ := hp
      have lt : i < l.length := (List.getElem?_eq_some_iff.mp hz).1
      show BT _ _ _ _ [some .pool, some (.dat (progD bs hs)), some (.dat (.list (l.map .str))), some (.dat (.int (i : Int))), some (.dat (.str z))] _
      refine fun _ _ _ _ _ => kt_cm dc_nin (k_var 4 rfl rfl (k_slc (k_var 2 rfl rfl (ko_none (ko_some (k_var 3 rfl rfl ?_))))))
      have ec : Kp.cutD (l.map PyData.str) none (some ((i : Nat) : Int)) = (l.take i).map .str := by rw [cut_take (by rw [List.length_map]; omega), List.map_take]
      refine ⟨.str z, (l.take i).map .str, rfl, by rw [ec]; exact flatDs_strs _, ?_⟩
      rw [inV_strs]
      refine iteN (fun hm => ?_) (fun hm => ?_)
      · refine fun _ _ _ _ _ => k_var 4 rfl rfl ⟨ms ++ [z], by rw [List.map_append]; rfl, ?_, fun y => ?_, by rw [List.length_append]; exact Nat.succ_le_succ m3⟩
        · rw [List.nodup_append]
          refine ⟨m1, List.pairwise_singleton _ z, fun a ha b hb e => ?_⟩
          rw [List.mem_singleton] at hb
          subst hb
          subst e
          exact hm ((m2 a).mp ha)
        · rw [List.mem_append, List.mem_singleton, m2, List.take_add_one, hz, List.mem_append]
          simp
      · refine ⟨ms, rfl, m1, fun y => ?_, by omega⟩
        rw [m2, List.take_add_one, hz, List.mem_append]
        simp only [Option.toList_some, List.mem_singleton]
        exact ⟨.inl, fun q => q.elim id fun e => e ▸ hm⟩
  · obtain ⟨ms, rfl, m1, m2, m3⟩ := hes
    rw [enumD_len, List.length_map, List.take_length] at m2
    rw [enumD_len, List.length_map] at m3
    show KSs _ _ _ [some .pool, some (.dat (progD bs hs)), some (.dat (.list (ms.map .str))), none, none] _
    have hle : bs.length ≤ ms.length := by
      have e : (ms.filter fun z => decide (z ∈ bs)).Perm bs := (List.perm_ext_iff_of_nodup (m1.filter _) Pp.nd).mpr fun z => by
        rw [List.mem_filter, decide_eq_true_eq, m2]
        exact ⟨fun q => q.2, fun q => ⟨by rw [← hl]; exact List.mem_append_left _ q, q⟩⟩
      rw [← e.length_eq]
      exact List.length_filter_le _ _
    refine ks_one (ks_ret (k_cd Dp hr (by decide) rfl (ka_cons (k_var 0 rfl rfl (ka_cons (k_var 2 rfl rfl (ka_cons (k_cB dl_len rfl B.len b_len (ka_cons (k_idx (fun _ _ => rfl) (k_var 1 rfl rfl (k_int ⟨_, atI_nat (j := 0) rfl, ka_nil (ka_nil ⟨rfl, ms, (bs.length : Int), by rw [List.length_map], by omega, by omega, by omega, fun ys rest hp hy => hR ys ⟨by omega, ?_, fun z hz => ?_⟩⟩)⟩))))))))))))
    · exact (List.nodup_append.mp (hp.nodup_iff.mpr m1)).1
    · have := (m2 z).mp (hp.subset (List.mem_append_left _ hz))
      rw [← hl] at this
      rcases List.mem_append.mp this with q | q
      · exact Pp.nm z q
      · exact moreN_ok z q
end
end K61


namespace K61
open PySem PySem.Spec PyProof.Rows L2 Kp
abbrev lCalled : Stmt := top 42
abbrev lBack : Stmt := top 43
theorem ixN_at {n j : Nat} (h : j < n) : ixN n (j : Int) = some j := by
  unfold ixN
  rw [if_pos (by omega), if_pos (by omega), Int.toNat_natCast]
def cDB : List AV → (AV → Prop) → Prop := fun as R => ∃ (z : Str) (ks : List Kd) (rest : List PyData) (bs news : List Str), as = [.dat (.tuple (.str z :: rest)), .nmd (bs.zip (news.map .str))] ∧ Parts bs z ks rest ∧ bs.Nodup ∧ news.length = bs.length ∧ R (.dat (renD (nF bs news) (.tuple (.str z :: rest))))
section
variable {base : Heap} {K : PySem.W.Frag} {w : World} {P : Program} {mg : Str → Option Value}
abbrev nDB : List Str := ["_law_deed_here", "_law_names"]
theorem scDB : FnScope nDB ["_law_deed_here", "_law_names"] (defScope lDeedBy) := ⟨rfl, rfl, rfl, by decide +kernel, rfl, by decide +kernel, by decide +kernel⟩
def silents : List Str := ["fence", "skip", "claim"]
theorem l_deedby (F : Fn0 K mg "_law_deed_by" lDeedBy ["_law_deed_here", "_law_names"]) : Dn P w K mg base "_law_deed_by" 1 cDB := by
  refine dn F scDB (fun as R ⟨_, _, _, _, _, e, _⟩ => by subst e; rfl) fun f cdv A outer s H E w0 as R hr hC => ?_
  obtain ⟨z, ks, rest, bs, news, rfl, Pt, nd, hl, hR⟩ := hC
  show KSs _ _ _ [some (.dat (.tuple (.str z :: rest))), some (.nmd (bs.zip (news.map .str)))] _
  have hR : R (.dat (match plOf z with | none => .tuple (.str z :: rest) | some p => .tuple ((PyData.str z :: rest).set p (strF (nF bs news) ((PyData.str z :: rest).getD p .none))))) := hR
  have hu1 : A.units + 0 = A.units := rfl
  refine ks_cons (ks_if (kt_cm dc_in (k_idx (fun _ _ => rfl) (k_var 0 rfl rfl (k_int ⟨_, atI_nat (j := 0) rfl, k_tup (ka_strs (zs := silents) rfl (onDats_strs ⟨by decide, ?_⟩))⟩)))))
  refine ⟨.str z, silents.map .str, rfl, flatDs_strs silents, ?_⟩
  rw [inV_strs]
  have hlr := Pt.len
  have hl5 := kindsOf_len z ks Pt.kind
  rcases kinds_nine Pt.kind with ⟨e1, hz, hno⟩ | ⟨ez, e1, r, ek, hno⟩ | ⟨z1, z2, z3, z4, e1, k0, r, ek, h0, hno⟩
  · have hm : z ∈ silents := by rcases hz with rfl | rfl | rfl <;> decide
    rw [decide_eq_true hm]
    rw [e1] at hR
    exact ks_one (ks_ret (k_var 0 rfl rfl hR))
  · have hm : ¬ z ∈ silents := by rw [ez]; decide
    rw [decide_eq_false hm]
    refine ks_nil (ks_cons (ks_if (kt_cm dc_seq (k_idx (fun _ _ => rfl) (k_var 0 rfl rfl (k_int ⟨_, atI_nat (j := 0) rfl, k_str ?_⟩))))))
    show iteP (decide (z = "write")) _ _
    rw [decide_eq_true ez]
    rw [e1] at hR
    subst ek
    match rest, hlr, Pt, hR with
    | x :: rest, hlr, Pt, hR =>
      obtain ⟨b, rfl, hb⟩ := fits_box (Pt.fit (.box, x) (by rw [List.zip_cons_cons]; exact List.mem_cons_self))
      obtain ⟨ne1, ne2⟩ := nF_mem nd hl hb
      simp only [List.length_cons] at hlr hl5
      refine ks_one (ks_ret (k_add (k_tup (ka_cons (k_idx (fun _ _ => rfl) (k_var 0 rfl rfl (k_int ⟨_, atI_nat (j := 0) rfl, ka_cons (k_nsub (Nat.lt_of_le_of_lt (Nat.add_le_add_left (by decide : 1 ≤ 65) _) hr.u65) (fun _ _ => rfl) (k_var 1 rfl rfl ⟨_, rfl, k_idx (fun _ _ => rfl) (k_var 0 rfl rfl (k_int ⟨.str b, atI_nat (j := 1) rfl, b, .str (nF bs news b), rfl, ne1, ka_nil ⟨Nat.le_of_ble_eq_true rfl, ?_⟩⟩))⟩))⟩)))))))
      refine k_slc (k_var 0 rfl rfl (ko_some (k_int (ko_none ?_))))
      have c : cutD (.str z :: .str b :: rest) (some 2) none = rest := by
        rw [show (some (2 : Int)) = some ((2 : Nat) : Int) from rfl, cut_drop (by rw [List.length_cons, List.length_cons]; omega)]
        rfl
      refine ⟨by rw [c]; show 2 + rest.length ≤ 100000; omega, ?_⟩
      rw [c]
      exact hR
  · have hm : ¬ z ∈ silents := fun m => by
      simp only [silents, List.mem_cons, List.not_mem_nil, or_false] at m
      rcases m with m | m | m
      · exact z1 m
      · exact z2 m
      · exact z3 m
    rw [decide_eq_false hm]
    refine ks_nil (ks_cons (ks_if (kt_cm dc_seq (k_idx (fun _ _ => rfl) (k_var 0 rfl rfl (k_int ⟨_, atI_nat (j := 0) rfl, k_str ?_⟩))))))
    show iteP (decide (z = "write")) _ _
    rw [decide_eq_false z4]
    rw [e1] at hR
    subst ek
    match rest, hlr, Pt, hR with
    | y :: x :: rest, hlr, Pt, hR =>
      obtain ⟨b, rfl, hb⟩ := fits_box (Pt.fit (.box, x) (by rw [List.zip_cons_cons, List.zip_cons_cons]; exact List.mem_cons_of_mem _ List.mem_cons_self))
      obtain ⟨ne1, ne2⟩ := nF_mem nd hl hb
      simp only [List.length_cons] at hlr hl5
      refine ks_nil (ks_one (ks_ret (k_add (k_add (k_slc (k_var 0 rfl rfl (ko_none (ko_some (k_int (k_tup (ka_cons (k_nsub (Nat.lt_of_le_of_lt (Nat.add_le_add_left (by decide : 1 ≤ 65) _) hr.u65) (fun _ _ => rfl) (k_var 1 rfl rfl ⟨_, rfl, k_idx (fun _ _ => rfl) (k_var 0 rfl rfl (k_int ⟨.str b, atI_nat (j := 2) rfl, b, .str (nF bs news b), rfl, ne1, ka_nil ⟨Nat.le_of_ble_eq_true rfl, ?_⟩⟩))⟩)))))))))))))
      have c1 : cutD (.str z :: y :: .str b :: rest) none (some 2) = [.str z, y] := by
        rw [show (some (2 : Int)) = some ((2 : Nat) : Int) from rfl, cut_take (by rw [List.length_cons, List.length_cons]; omega)]
        rfl
      have c2 : cutD (.str z :: y :: .str b :: rest) (some 3) none = rest := by
        rw [show (some (3 : Int)) = some ((3 : Nat) : Int) from rfl, cut_drop (by rw [List.length_cons, List.length_cons, List.length_cons]; omega)]
        rfl
      refine ⟨by rw [c1]; exact Nat.le_of_ble_eq_true rfl, k_slc (k_var 0 rfl rfl (ko_some (k_int (ko_none ?_))))⟩
      refine ⟨by rw [c1, c2]; show 3 + rest.length ≤ 100000; omega, ?_⟩
      rw [c1, c2]
      exact hR
def cLCalM : Store → List AV → (Store → AV → Prop) → Prop := fun st as R => ∃ (bs : List Str) (hs : List (List PyData)) (os : List Nat) (news : List Str), as = [.dat (progD bs hs), .dat (.list (natD os)), .dat (.list (news.map .str))] ∧ st = [] ∧ Pv bs hs ∧ Od hs.length os ∧ Nw bs news ∧
  ∀ st' t p zs, zs.Perm news → sortedS zs = true → (t, Ck.tup, [.dat (.list (zs.map .str)), .at_ p]) ∈ st' → (p, Ck.lst, ((calH (nF bs news) hs os).map PyData.list).map AV.dat) ∈ st' → R st' (.at_ t)
def cLCal : List AV → (AV → Prop) → Prop := fun as R => ∃ (bs : List Str) (hs : List (List PyData)) (os : List Nat) (news : List Str), as = [.dat (progD bs hs), .dat (.list (natD os)), .dat (.list (news.map .str))] ∧ Pv bs hs ∧ Od hs.length os ∧ Nw bs news ∧
  ∀ zs, zs.Perm news → sortedS zs = true → R (.dat (progD zs (calH (nF bs news) hs os)))
abbrev nLCal : List Str := ["_law_program", "_law_order_here", "_law_news", "_law_names", "_law_found", "_law_k", "_law_deeds", "_law_deed_here"]
theorem scLCal : FnScope nLCal ["_law_program", "_law_order_here", "_law_news"] (defScope lCalled) := ⟨rfl, rfl, rfl, by decide +kernel, rfl, by decide +kernel, by decide +kernel⟩
theorem l_called (B : Blt mg) (he : mg "enumerate" = none) (hd0 : mg "dict" = none) (D1 : Dn P w K mg base "_law_deed_by" 1 cDB) (F : Fn0 K mg "_law_called" lCalled ["_law_program", "_law_order_here", "_law_news"]) : DnM P w K mg base "_law_called" 2 cLCalM := by
  refine dnM F scLCal (fun st as R ⟨_, _, _, _, e, _⟩ => by subst e; rfl) fun f cdv A outer s H E w0 st as R hr hC => ?_
  obtain ⟨bs, hs, os, news, rfl, rfl, Pp, ho, hn, hR⟩ := hC
  have h4 := Pp.h4
  have b4 := Pp.b1
  show MSs _ _ _ [] [some (.dat (progD bs hs)), some (.dat (.list (natD os))), some (.dat (.list (news.map .str))), none, none, none, none, none] _
  refine m_cons (m_lift (ks_set 3 scLCal.nd rfl (.inr rfl) (k_dictZip rfl rfl hd0 rfl B.zip (ka_cons (k_idx (fun _ _ => rfl) (k_var 0 rfl rfl (k_int ⟨_, atI_nat (j := 0) rfl, ka_cons (k_var 2 rfl rfl (ka_nil ⟨bs, news.map .str, rfl, Pp.nd, by rw [List.length_map, hn.len], ?_⟩))⟩)))))))
  show MSs _ _ _ [] [some (.dat (progD bs hs)), some (.dat (.list (natD os))), some (.dat (.list (news.map .str))), some (.nmd (bs.zip (news.map .str))), none, none, none, none] _
  refine m_cons (m_setM 4 scLCal.nd rfl (.inl rfl) (me_new (mn_kn (kn_rep (k_lst (ka_cons (k_non (ka_nil ⟨by decide, k_cB dl_len rfl B.len b_len (ka_cons (k_var 1 rfl rfl (ka_nil ⟨?_, ?_, ?_, fun p fp => ?_⟩)))⟩))))))))
  · omega
  · rw [natD_len, ho.len]; omega
  · rw [natD_len, ho.len, Int.toNat_natCast]; show 1 * hs.length ≤ 100000; omega
  rw [natD_len, ho.len, Int.toNat_natCast]
  show MSs _ _ _ [(p, Ck.lst, ((List.replicate hs.length [PyData.none]).flatten).map AV.dat)] [some (.dat (progD bs hs)), some (.dat (.list (natD os))), some (.dat (.list (news.map .str))), some (.nmd (bs.zip (news.map .str))), some (.at_ p), none, none, none] _
  refine m_cons (m_for PassesOwn.never rfl (fun _ => tgok2 5 6 (by decide)) (pg_tup rfl (pgs_cons (pg_name (i := 5) scLCal.nd rfl (Or.inl rfl)) (pgs_cons (pg_name (i := 6) scLCal.nd rfl (Or.inl rfl)) pgs_nil))) (ki_enum rfl he (k_idx (fun _ _ => rfl) (k_var 0 rfl rfl (k_int ⟨_, atI_nat (j := 1) rfl, ?_⟩)))))
  refine ⟨fun i st' ss' => ∃ (o5 o6 : Option AV) (arr : List PyData), ss' = [some (.dat (progD bs hs)), some (.dat (.list (natD os))), some (.dat (.list (news.map .str))), some (.nmd (bs.zip (news.map .str))), some (.at_ p), o5, o6, none] ∧ (p, Ck.lst, arr.map AV.dat) ∈ st' ∧ arr.length = hs.length ∧
      ∀ (k j : Nat) (l : List PyData), k < i → os[k]? = some j → hs[k]? = some l → arr[j]? = some (.list (l.map (renD (nF bs news)))), ⟨_, _, _, rfl, List.mem_cons_self, ?_, fun k j l h => absurd h (Nat.not_lt_zero _)⟩, fun i d st' ss' hd hI => ?_, fun st' ss' hI => ?_⟩
  · rw [List.length_flatten, List.map_replicate, List.sum_replicate_nat]
    show hs.length * 1 = _
    rw [Nat.mul_one]
  · obtain ⟨o5, o6, arr, rfl, hp, ha, hk⟩ := hI
    obtain ⟨x, hx, rfl⟩ := enumD_at hd
    rw [List.getElem?_map] at hx
    cases hl : hs[i]? with
    | none => rw [hl] at hx; cases hx
    | some l =>
      rw [hl] at hx
      cases Option.some.inj hx
      have hlm := List.mem_of_getElem? hl
      have hlf := Pp.few l hlm
      have hi : i < hs.length := (List.getElem?_eq_some_iff.mp hl).1
      have hio : i < os.length := by rw [ho.len]; exact hi
      have ej : os[i]? = some os[i] := List.getElem?_eq_getElem hio
      have lj : os[i] < hs.length := ho.mem.mp (List.getElem_mem hio)
      show MSs _ _ _ st' [some (.dat (progD bs hs)), some (.dat (.list (natD os))), some (.dat (.list (news.map .str))), some (.nmd (bs.zip (news.map .str))), some (.at_ p), some (.dat (.int (i : Int))), some (.dat (.list l)), none] _
      refine m_one (m_setI (me_lift (k_ofN (kn_lc (own := [("_law_deed_here", 7)]) (g := gName 7) rfl scLCal.nd (blkOk_by (N := nLCal) (sc := defScope lCalled) (by decide +kernel)) (tgok1 7) (fun _ _ _ _ _ => pg_name (i := 7) scLCal.nd rfl (Or.inl rfl)) (ki_list (k_var 6 rfl rfl ⟨by omega, fun k es => es = (l.map (renD (nF bs news))).take k, by rfl, fun k d acc2 hd2 hp2 => ?_, fun es hes => ?_⟩))))))
      · subst hp2
        have G := Pp.gd l hlm d (List.mem_of_getElem? hd2)
        obtain ⟨z, ks, rest, rfl, Pt⟩ := parts_of G.1
        refine fun _ _ _ _ _ => k_cd D1 hr (by decide) rfl (ka_cons (k_var 7 rfl rfl (ka_cons (k_var 3 rfl rfl (ka_nil ⟨rfl, z, ks, rest, bs, news, rfl, Pt, Pp.nd, hn.len, ?_⟩)))))
        show _ = _
        rw [List.take_add_one, List.getElem?_map, hd2]
        rfl
      · rw [← List.length_map (f := renD (nF bs news)), List.take_length] at hes
        subst hes
        refine me_lift (k_var 4 rfl rfl ⟨p, _, rfl, hp, me_lift (k_idx (fun _ _ => rfl) (k_var 1 rfl rfl (k_var 5 rfl rfl ⟨.int (os[i] : Nat), atI_nat (by unfold natD; rw [List.getElem?_map, ej]; rfl), os[i], os[i], _, rfl, hp, ?_, ?_⟩)))⟩)
        · rw [List.length_map, ha]
          exact ixN_at lj
        · refine ⟨_, _, arr.set os[i] (.list (l.map (renD (nF bs news)))), rfl, by rw [List.map_set]; exact stSet_at hp, by rw [List.length_set]; exact ha, fun k j l2 hk2 hj hl2 => ?_⟩
          by_cases e : k = i
          · subst e
            rw [ej] at hj
            cases Option.some.inj hj
            rw [hl] at hl2
            cases Option.some.inj hl2
            rw [List.getElem?_set_self (by rw [ha]; exact lj)]
          · have ne : os[i] ≠ j := fun e2 => by
              have q1 := ho.ixk hj
              have q2 := ho.ixk ej
              rw [e2, q1] at q2
              exact e q2
            rw [List.getElem?_set_ne ne]
            exact hk k j l2 (by omega) hj hl2
  · obtain ⟨o5, o6, arr, rfl, hp, ha, hk⟩ := hI
    have e : arr = (calH (nF bs news) hs os).map PyData.list := by
      refine List.ext_getElem? fun j => ?_
      by_cases lt : j < hs.length
      · obtain ⟨l, h1, h2⟩ := calH_at (f := nF bs news) ho lt
        obtain ⟨q1, q2⟩ := ho.ix lt
        rw [List.getElem?_map, h2, hk (os.idxOf j) j l (by rw [enumD_len, List.length_map]; exact q1) q2 h1]
        rfl
      · rw [List.getElem?_eq_none (by omega), List.getElem?_eq_none (by rw [List.length_map, calH_len, ho.len]; omega)]
    subst e
    refine m_one (m_retM (me_tup2 (me_lift (k_cB dl_sorted rfl B.sorted b_sorted (ka_cons (k_var 2 rfl rfl (ka_nil ⟨news, rfl, by have := hn.len; omega, fun zs hzp hzs => me_lift (k_var 4 rfl rfl ⟨rfl, rfl, fun t ft => hR _ t p zs hzp hzs List.mem_cons_self (List.mem_cons_of_mem _ hp)⟩)⟩)))))))
theorem l_calledD (D : DnM P w K mg base "_law_called" 2 cLCalM) : Dn P w K mg base "_law_called" 2 cLCal := D.data fun as R ⟨bs, hs, os, news, e, Pp, ho, hn, hR⟩ => ⟨bs, hs, os, news, e, rfl, Pp, ho, hn, fun st' t p zs h1 h2 ht hp => ⟨_, .tup ht (.cons (.dat _) (.cons (.lst hp SplA.dats) .nil)), hR zs h1 h2⟩⟩
def cBack : List AV → (AV → Prop) → Prop := fun as R => ∃ (bs : List Str) (hs : List (List PyData)) (os : List Nat) (news : List Str), as = [.dat (progD bs hs), .dat (.list (natD os)), .dat (.list (news.map .str))] ∧ Pv bs hs ∧ Od hs.length os ∧ Nw bs news ∧
  ∀ zs, zs.Perm news → sortedS zs = true → R (.dat (.tuple [.list (natD (invO os)), .list ((zs.map (nF news bs)).map .str)]))
abbrev nBack : List Str := ["_law_program", "_law_order_here", "_law_news", "_law_places", "_law_names", "_law_k", "_law_name"]
theorem scBack : FnScope nBack ["_law_program", "_law_order_here", "_law_news"] (defScope lBack) := ⟨rfl, rfl, rfl, by decide +kernel, rfl, by decide +kernel, by decide +kernel⟩
theorem l_back (B : Blt mg) (hd0 : mg "dict" = none) (F : Fn0 K mg "_law_back" lBack ["_law_program", "_law_order_here", "_law_news"]) : Dn P w K mg base "_law_back" 1 cBack := by
  refine dn F scBack (fun as R ⟨_, _, _, _, e, _⟩ => by subst e; rfl) fun f cdv A outer s H E w0 as R hr hC => ?_
  obtain ⟨bs, hs, os, news, rfl, Pp, ho, hn, hR⟩ := hC
  have h4 := Pp.h4
  have cm := ho.cm h4.2
  show KSs _ _ _ [some (.dat (progD bs hs)), some (.dat (.list (natD os))), some (.dat (.list (news.map .str))), none, none, none, none] _
  refine ks_cons (ks_setLcD 3 (own := [("_law_k", 5)]) (g := gName 5) rfl scBack.nd rfl rfl (blkOk_by (N := nBack) (sc := defScope lBack) (by decide +kernel)) (tgok1 5) (fun _ _ _ _ _ => pg_name (i := 5) scBack.nd rfl (Or.inl rfl)) (ki_rng1 rfl B.range (k_cB dl_len rfl B.len b_len (ka_cons (k_var 1 rfl rfl (ka_nil ⟨?_, ?_, ?_⟩))))))
  · omega
  · rw [natD_len, ho.len]; omega
  rw [natD_len, Int.toNat_natCast]
  refine ⟨by rw [rangeD_len, ho.len]; omega, fun i es => es = natD ((List.range i).map fun j => os.idxOf j), rfl, fun i d acc hd hp => ?_, fun es hes => ?_⟩
  · subst hp
    obtain ⟨hi, rfl⟩ := rangeD_at hd
    rw [ho.len] at hi
    obtain ⟨h1, h2⟩ := ho.ix hi
    refine fun _ _ _ _ _ => k_index hr.u65 (k_var 1 rfl rfl ⟨_, rfl, k_var 5 rfl rfl ⟨_, rfl, cm.noD, rfl, cm.2, (Cm.int _).2, os.idxOf i, .int (i : Int), by unfold natD; rw [List.getElem?_map, h2]; rfl, ?_, fun m z' hm hz => ?_, ?_⟩⟩)
    · rw [Int.zero_add]; exact eqv_self rfl
    · obtain ⟨k, hk, rfl⟩ := natD_at hz
      have ne : k ≠ i := fun e => by
        subst e
        have := ho.ixk hk
        omega
      refine Bool.eq_false_iff.mpr fun q => ne ?_
      have q := (eqv_pure (d := .int (k : Int)) (e := .int (0 + (i : Int))) rfl rfl).1 q
      have q : (k : Int) = 0 + (i : Int) := PyData.int.inj q
      omega
    · show _ = _
      rw [List.range_succ, List.map_append]
      unfold natD
      rw [List.map_append]
      rfl
  subst hes
  rw [rangeD_len]
  show KSs _ _ _ [some (.dat (progD bs hs)), some (.dat (.list (natD os))), some (.dat (.list (news.map .str))), some (.dat (.list (natD (invO os)))), none, none, none] _
  refine ks_cons (ks_set 4 scBack.nd rfl (.inr rfl) (k_dictZip rfl rfl hd0 rfl B.zip (ka_cons (k_var 2 rfl rfl (ka_cons (k_idx (fun _ _ => rfl) (k_var 0 rfl rfl (k_int ⟨_, atI_nat (j := 0) rfl, ka_nil ⟨news, bs.map .str, rfl, hn.nd, by rw [List.length_map, hn.len], ?_⟩⟩))))))))
  show KSs _ _ _ [some (.dat (progD bs hs)), some (.dat (.list (natD os))), some (.dat (.list (news.map .str))), some (.dat (.list (natD (invO os)))), some (.nmd (news.zip (bs.map .str))), none, none] _
  refine ks_one (ks_ret (k_tup (ka_cons (k_var 3 rfl rfl (ka_cons (k_ofN (kn_lc (own := [("_law_name", 6)]) (g := gName 6) rfl scBack.nd (blkOk_by (N := nBack) (sc := defScope lBack) (by decide +kernel)) (tgok1 6) (fun _ _ _ _ _ => pg_name (i := 6) scBack.nd rfl (Or.inl rfl)) (ki_list (k_cB dl_sorted rfl B.sorted b_sorted (ka_cons (k_var 2 rfl rfl (ka_nil ⟨news, rfl, by have := hn.len; have := Pp.b1; omega, fun zs hzp hzs => ?_⟩))))))))))))
  refine ⟨by rw [List.length_map, hzp.length_eq, hn.len]; have := Pp.b1; omega, fun i es => es = ((zs.map (nF news bs)).map PyData.str).take i, rfl, fun i d acc hd hp => ?_, fun es hes => ?_⟩
  · subst hp
    rw [List.getElem?_map] at hd
    cases hz : zs[i]? with
    | none => rw [hz] at hd; cases hd
    | some z =>
      rw [hz] at hd
      cases Option.some.inj hd
      have hm := hzp.mem_iff.mp (List.mem_of_getElem? hz)
      obtain ⟨n1, n2⟩ := nF_mem hn.nd hn.len.symm hm
      refine fun _ _ _ _ _ => k_nsub (Nat.lt_of_le_of_lt (Nat.add_le_add_left (by decide : 1 ≤ 65) _) hr.u65) (fun _ _ => rfl) (k_var 4 rfl rfl ⟨_, rfl, k_var 6 rfl rfl ⟨z, _, rfl, n1, ?_⟩⟩)
      show _ = _
      rw [List.take_add_one, List.getElem?_map, List.getElem?_map, hz]
      rfl
  · have e : (zs.map PyData.str).length = ((zs.map (nF news bs)).map PyData.str).length := by rw [List.length_map, List.length_map, List.length_map]
    rw [e, List.take_length] at hes
    subst hes
    exact ka_nil ⟨Nat.le_of_ble_eq_true rfl, hR zs hzp hzs⟩
end
end K61


namespace K61
open PySem PySem.Spec PyProof.Rows L2 Kp
abbrev lRight : Stmt := top 44
abbrev lLaw : Stmt := top 45
theorem SplA.app {st : Store} : ∀ {as bs : List AV} {ds es : List PyData}, SplA st as ds → SplA st bs es → SplA st (as ++ bs) (ds ++ es)
  | _, _, _, _, .nil, h => h
  | _, _, _, _, .cons a t, h => .cons a (SplA.app t h)
theorem srt_one {xs ys news : List Str} (nd : news.Nodup) (h1 : xs.Perm news) (u1 : sortedS xs = true) (h2 : ys.Perm news) (u2 : sortedS ys = true) : xs = ys :=
  sorted_eq u1 u2 (h1.nodup_iff.mpr nd) (h2.nodup_iff.mpr nd) fun z => by rw [h1.mem_iff, h2.mem_iff]
def lenD : PyData → Nat
  | .list l => l.length
  | _ => 0
def isL : PyData → Bool
  | .list _ => true
  | _ => false
theorem isL_of {d : PyData} (h : isL d = true) : ∃ l, d = .list l := by
  cases d with
  | list l => exact ⟨l, rfl⟩
  | _ => cases h
section
variable {bs : List Str} {hs : List (List PyData)} {os : List Nat} {news zs : List Str}
/-- the three things that stay -/
def keptD (bs : List Str) (hs : List (List PyData)) (os : List Nat) (news : List Str) : PyData := .list [progD bs hs, .list (natD os), .list (news.map .str)]
theorem nat_rp {ns : List Nat} (h : ns.length ≤ 4) (hs : ∀ n ∈ ns, n ≤ 100) : Rp 1 2000 (.list (natD ns)) :=
  (Rp.list (n := 0) (b := 300) (k := 4) (fun d hd => by
    obtain ⟨n, hn, rfl⟩ := List.mem_map.mp hd
    exact (Rp.sm (n := 0) (sm_int (by omega) (by have := hs n hn; omega))).mono (Nat.le_refl _) (by decide)) (by rw [natD_len]; exact h)).mono (by decide) (by decide)
theorem strs_rp {xs : List Str} (h : xs.length ≤ 4) (hz : ∀ z ∈ xs, short z = true) : Rp 1 2000 (.list (xs.map .str)) :=
  (Rp.list (n := 0) (b := 300) (k := 4) (fun d hd => (Rp.sm (n := 0) (strs_sm (n := 0) hz d hd)).mono (by decide) (by decide)) (by rw [List.length_map]; exact h)).mono (by decide) (by decide)
theorem kept_rp (h : Pv bs hs) (ho : Od hs.length os) (hn : Nw bs news) : Rp 5 3000400 (keptD bs hs os news) := by
  have h4 := h.h4
  have b4 := h.b1
  refine (Rp.list (n := 4) (b := 1000100) (k := 3) (ds := [progD bs hs, .list (natD os), .list (news.map .str)]) (fun d hd => ?_) (Nat.le_refl 3)).mono (by decide) (by decide)
  rcases List.mem_cons.mp hd with q | q
  · subst q; exact h.rp
  rcases List.mem_cons.mp q with q | q
  · subst q; exact (nat_rp (by rw [ho.len]; exact h4.2) fun n hn => by have := ho.mem.mp hn; omega).mono (by decide) (by decide)
  rcases List.mem_cons.mp q with q | q
  · subst q; exact (strs_rp (by rw [hn.len]; exact b4.2) fun z hz => (hn.nm z hz).2).mono (by decide) (by decide)
  · cases q
/-- the names back -/
theorem Nw.back (h : Pv bs hs) (hn : Nw bs news) (hp : zs.Perm news) : Nw zs (zs.map (nF news bs)) ∧ bs.Perm (zs.map (nF news bs)) := by
  have e : (zs.map (nF news bs)).Perm bs := (hp.map _).trans (by rw [nF_map hn.nd hn.len.symm])
  exact ⟨⟨by rw [List.length_map], e.nodup_iff.mpr h.nd, fun z hz => h.nm z (e.mem_iff.mp hz)⟩, e.symm⟩
end
def cRightT : List AV → (AV → Prop) → Prop := fun as R => ∃ (bs : List Str) (hs : List (List PyData)) (os : List Nat) (news : List Str), as = [.dat (progD bs hs), .dat (.list (natD os)), .dat (.list (news.map .str))] ∧ Pv bs hs ∧ Od hs.length os ∧ Nw bs news ∧ R (.dat (.bool true))
section
variable {base : Heap} {K : PySem.W.Frag} {w : World} {P : Program} {mg : Str → Option Value}
abbrev nRight : List Str := ["_law_program", "_law_order_here", "_law_news", "_law_kept", "_law_plain", "_law_due", "_law_turn", "_law_found", "_law_lists", "_law_sizes", "_law_one", "_law_places", "_law_names"]
theorem scRight : FnScope nRight ["_law_program", "_law_order_here", "_law_news"] (defScope lRight) := ⟨rfl, rfl, rfl, by decide +kernel, rfl, by decide +kernel, by decide +kernel⟩
/-- the five ways of calling -/
structure Calls5 (P : Program) (w : World) (K : PySem.W.Frag) (mg : Str → Option Value) (base : Heap) : Prop where
  m : DnKM P w K mg base "called" 9 1 ["hands", "boxes"] (fun as bs => as ++ bs) cCalM
  hb : DnK P w K mg base "called" 9 1 ["hands", "boxes"] (fun as bs => as ++ bs) cCal
  bh : DnK P w K mg base "called" 9 1 ["boxes", "hands"] (fun as bs => as ++ bs.reverse) cCal
  h : DnK P w K mg base "called" 9 1 ["hands"] (fun as bs => (as ++ bs) ++ [.dat .none]) cCal
  b : DnK P w K mg base "called" 9 1 ["boxes"] (fun as bs => as ++ [.dat .none] ++ bs) cCal
  n : DnD P w K mg base "called" 9 2 cCal
/-- the body of the loop, as the text has it -/
def forB : Stmt → List Stmt
  | .For _ _ b _ _ => b
  | _ => []
theorem lens_eq {LS : List PyData} (hL : ∀ d ∈ LS, isL d = true) (i : Nat) {d : PyData} (h : LS[i]? = some d) : ∃ l, d = .list l ∧ (LS.take (i + 1)).map lenD = (LS.take i).map lenD ++ [l.length] := by
  obtain ⟨l, rfl⟩ := isL_of (hL d (List.mem_of_getElem? h))
  exact ⟨l, rfl, by rw [List.take_add_one, h, List.map_append]; rfl⟩
theorem right_turn {f : Addr} {cdv : Value} {A : Around} {outer : List Env} {s : Shared} {H : Hp} {E : XK} {w0 : Wl} {N : MN} {o6 o7 o8 o9 o10 : Option AV} {bs : List Str} {hs : List (List PyData)} {os : List Nat} {news zs : List Str} (B : Blt mg) (D : Calls5 P w K mg base)
    (hg : A.guards = some []) (hr : Room 9 (A.deeper (envOfC "_law_right" (defScope lRight) s.heap.objs.size f cdv))) (Pp : Pv bs hs) (ho : Od hs.length os) (hn : Nw bs news) (hz : zs.Perm news) (hu : sortedS zs = true) (hb10 : nbS [o10] = true)
    (hN : ∀ st' o7 o8 o9 o10, nbS [o7, o8, o9, o10] = true → N.nx st' [some (.dat (progD bs hs)), some (.dat (.list (natD os))), some (.dat (.list (news.map .str))), some (.dat (.str (keptD bs hs os news).shown)), some (.dat (.list (natD (List.range hs.length)))), some (.dat (.str (progD zs (calH (nF bs news) hs os)).shown)), o6, o7, o8, o9, o10, none, none]) :
    MSs (cxB P w K mg base nRight "_law_right" (defScope lRight) f cdv A outer s H E) w0 (forB ((defBody lRight).getD 3 (.Pass ⟨0, 0, 0, 0⟩))) [] [some (.dat (progD bs hs)), some (.dat (.list (natD os))), some (.dat (.list (news.map .str))), some (.dat (.str (keptD bs hs os news).shown)), some (.dat (.list (natD (List.range hs.length)))), some (.dat (.str (progD zs (calH (nF bs news) hs os)).shown)), o6, o7, o8, o9, o10, none, none] N := by
  have P2 := Pp.cal ho hn hz hu
  have h4 := Pp.h4
  have b4 := Pp.b1
  obtain ⟨k1, k2, k3⟩ := (kept_rp Pp ho hn).top (by decide) (by decide)
  obtain ⟨q1, q2, q3⟩ := P2.rp.top (by decide) (by decide)
  generalize eH : calH (nF bs news) hs os = hs2 at *
  have hl2 : hs2.length = hs.length := by rw [← eH, calH_len, ho.len]
  refine m_cons (m_setM 7 scRight.nd rfl (.inl rfl) (me_cdK D.m hr (by decide) rfl (ka_cons (k_var 0 rfl rfl (ka_nil (kk_cons (k_var 1 rfl rfl (kk_cons (k_var 2 rfl rfl (kk_nil ⟨rfl, rfl, rfl, bs, hs, _, _, os, news, rfl, Pp, .inr ⟨rfl, ho⟩, .inr ⟨rfl, hn⟩, fun st t a p qs zs2 hz2 hu2 C => ?_⟩))))))))))
  cases srt_one hn.nd hz2 hu2 hz hu
  rw [eH] at C
  show MSs _ _ _ st [some (.dat (progD bs hs)), some (.dat (.list (natD os))), some (.dat (.list (news.map .str))), some (.dat (.str (keptD bs hs os news).shown)), some (.dat (.list (natD (List.range hs.length)))), some (.dat (.str (progD zs hs2).shown)), o6, some (.at_ t), o8, o9, o10, none, none] _
  have T1 : Thaw st [some (.dat (progD bs hs)), some (.dat (.list (natD os))), some (.dat (.list (news.map .str))), some (.dat (.str (keptD bs hs os news).shown)), some (.dat (.list (natD (List.range hs.length)))), some (.dat (.str (progD zs hs2).shown)), o6, some (.at_ t), o8, o9, o10, none, none] [some (.dat (progD bs hs)), some (.dat (.list (natD os))), some (.dat (.list (news.map .str))), some (.dat (.str (keptD bs hs os news).shown)), some (.dat (.list (natD (List.range hs.length)))), some (.dat (.str (progD zs hs2).shown)), o6, some (.dat (progD zs hs2)), o8, o9, o10, none, none] := Thaw.refl.set (i := 7) rfl (.tup C.tup (.cons (.lst C.bxs SplA.dats) (.cons C.hds.spell .nil)))
  refine m_cons (m_if (kt_tmp T1 (kt_w (kw_or (kt_cm dc_sne (k_cB (dl_reprA hg hr.units) rfl B.repr b_repr (ka_cons (k_var 7 rfl rfl (ka_nil ⟨q1, q2, q3, k_var 5 rfl rfl (iteN (fun h => absurd rfl h) (fun _ => ?_))⟩)))))))))
  refine kw_or1 (kt_cm dc_sne (k_cB (dl_reprA hg hr.units) rfl B.repr b_repr (ka_cons (k_cdK D.bh hr (by decide) rfl (ka_cons (k_var 0 rfl rfl (ka_nil (kk_cons (k_var 2 rfl rfl (kk_cons (k_var 1 rfl rfl (kk_nil ⟨rfl, rfl, rfl, bs, hs, _, _, os, news, rfl, Pp, .inr ⟨rfl, ho⟩, .inr ⟨rfl, hn⟩, fun zs3 hz3 hu3 => ?_⟩))))))))))))
  cases srt_one hn.nd hz3 hu3 hz hu
  rw [eH]
  refine ka_nil ⟨q1, q2, q3, k_var 5 rfl rfl (iteN (fun h => absurd rfl h) (fun _ => ?_))⟩
  refine m_nil (m_cons (m_setM 8 scRight.nd rfl (.inl rfl) (me_cat (me_new (mn_lst (ka_cons (k_idxM (fun _ _ => rfl) (k_var 7 rfl rfl ⟨t, .tup, _, rfl, C.tup, k_int ⟨0, .at_ a, rfl, rfl, ka_cons (k_idxM (fun _ _ => rfl) (k_var 7 rfl rfl ⟨t, .tup, _, rfl, C.tup, k_int ⟨1, .at_ p, rfl, rfl, ka_nil ⟨rfl, Nat.le_of_ble_eq_true rfl, fun r0 fr0 => ⟨r0, _, rfl, me_lift (k_idxM (fun _ _ => rfl) (k_var 7 rfl rfl ⟨t, .tup, _, rfl, List.mem_cons_of_mem _ C.tup, k_int ⟨1, .at_ p, rfl, rfl, p, qs.map AV.at_, rfl, List.mem_cons_self, List.mem_cons_of_mem _ C.hds.mp, ?_, fun r fr => ?_⟩⟩))⟩⟩⟩⟩))⟩⟩))))))))
  · rw [List.length_map, C.hds.len, hl2]; show 2 + _ ≤ 100000; omega
  let LS : List PyData := [.list (zs.map .str), .list (hs2.map .list)] ++ hs2.map .list
  have hLS : ∀ d ∈ LS, isL d = true := fun d hd => by
    rcases List.mem_append.mp hd with m | m
    · simp only [List.mem_cons, List.not_mem_nil, or_false] at m
      rcases m with rfl | rfl <;> rfl
    · obtain ⟨l, _, rfl⟩ := List.mem_map.mp m
      rfl
  have lLS : LS.length = 2 + hs.length := by
    show ([_, _] ++ hs2.map PyData.list).length = _
    rw [List.length_append, List.length_map, hl2]
    rfl
  generalize eS1 : ((r, Ck.lst, [AV.at_ a, AV.at_ p] ++ qs.map AV.at_) :: (r0, Ck.lst, [AV.at_ a, AV.at_ p]) :: st : Store) = st1
  have inc : ∀ x ∈ st, x ∈ st1 := fun x hx => by rw [← eS1]; exact List.mem_cons_of_mem _ (List.mem_cons_of_mem _ hx)
  have C1 : LL st1 p hs2 qs := C.hds.mono inc
  have ma := inc _ C.bxs
  have mr : (r, Ck.lst, [AV.at_ a, AV.at_ p] ++ qs.map AV.at_) ∈ st1 := by rw [← eS1]; exact List.mem_cons_self
  have sLS : Spl st1 (.at_ r) (.list LS) := .lst mr (SplA.app (.cons (.lst ma SplA.dats) (.cons C1.spell .nil)) (splA_cells C1.len C1.mq))
  show MSs _ _ _ st1 [some (.dat (progD bs hs)), some (.dat (.list (natD os))), some (.dat (.list (news.map .str))), some (.dat (.str (keptD bs hs os news).shown)), some (.dat (.list (natD (List.range hs.length)))), some (.dat (.str (progD zs hs2).shown)), o6, some (.at_ t), some (.at_ r), o9, o10, none, none] _
  refine m_cons (m_setLc 9 (ss' := [some (.dat (progD bs hs)), some (.dat (.list (natD os))), some (.dat (.list (news.map .str))), some (.dat (.str (keptD bs hs os news).shown)), some (.dat (.list (natD (List.range hs.length)))), some (.dat (.str (progD zs hs2).shown)), o6, some (.at_ t), some (.dat (.list LS)), o9, o10, none, none]) (own := [("_law_one", 10)]) (g := gName 10) (Thaw.refl.set (i := 8) rfl sLS) rfl scRight.nd rfl rfl (blkOk_by (N := nRight) (sc := defScope lRight) (by decide +kernel)) (tgok1 10) (fun _ _ _ _ _ => pg_name (i := 10) scRight.nd rfl (Or.inl rfl)) (ki_list (k_var 8 rfl rfl ?_)))
  refine ⟨by rw [lLS]; omega, fun i es => es = natD (((LS.take i).map lenD).map (· + 1)), by rfl, fun i d acc hd hp => ?_, fun es hes => ?_⟩
  · subst hp
    obtain ⟨l, rfl, e⟩ := lens_eq hLS i hd
    refine fun _ _ _ _ _ => k_add (k_cB dl_len rfl B.len b_len (ka_cons (k_var 10 rfl rfl (ka_nil (k_int ?_)))))
    show _ = _
    rw [e, List.map_append]
    unfold natD
    rw [List.map_append]
    rfl
  have hes : es = natD (((LS.take LS.length).map lenD).map (· + 1)) := hes
  rw [List.take_length] at hes
  subst hes
  generalize eN : (LS.map lenD).map (· + 1) = szs
  have hsz : szs.length ≤ 20 ∧ ∀ n ∈ szs, n ≤ 100 := by
    rw [← eN]
    refine ⟨by rw [List.length_map, List.length_map, lLS]; omega, fun n hn => ?_⟩
    obtain ⟨m, hm, rfl⟩ := List.mem_map.mp hn
    obtain ⟨d, hd, rfl⟩ := List.mem_map.mp hm
    rcases List.mem_append.mp hd with q | q
    · simp only [List.mem_cons, List.not_mem_nil, or_false] at q
      rcases q with rfl | rfl
      · show (zs.map PyData.str).length + 1 ≤ 100
        rw [List.length_map, hz.length_eq]; have := ‹Nw bs news›.len; omega
      · show (hs2.map PyData.list).length + 1 ≤ 100
        rw [List.length_map, hl2]; omega
    · obtain ⟨l, hl, rfl⟩ := List.mem_map.mp q
      show l.length + 1 ≤ 100
      have := P2.few l hl
      omega
  refine ⟨List.all_eq_true.mpr fun d hd => by obtain ⟨n, _, rfl⟩ := List.mem_map.mp hd; rfl, fun sz fsz => ?_⟩
  generalize eS2 : ((sz, Ck.lst, (natD szs).map AV.dat) :: st1 : Store) = st2
  have inc2 : ∀ x ∈ st1, x ∈ st2 := fun x hx => by rw [← eS2]; exact List.mem_cons_of_mem _ hx
  have msz : (sz, Ck.lst, (natD szs).map AV.dat) ∈ st2 := by rw [← eS2]; exact List.mem_cons_self
  have frr : ∀ x ∈ st, x.1 ≠ r ∧ x.1 ≠ sz := fun x hx => ⟨fr x (List.mem_cons_of_mem _ hx), fsz x (inc x hx)⟩
  show MSs _ _ _ st2 [some (.dat (progD bs hs)), some (.dat (.list (natD os))), some (.dat (.list (news.map .str))), some (.dat (.str (keptD bs hs os news).shown)), some (.dat (.list (natD (List.range hs.length)))), some (.dat (.str (progD zs hs2).shown)), o6, some (.at_ t), some (.at_ r), some (.at_ sz), o10, none, none] _
  let cs : List (Addr × List AV) := [(a, (zs.map PyData.str).map AV.dat), (p, qs.map AV.at_)] ++ qs.zip (hs2.map fun l => l.map AV.dat)
  have ecs : cs.map (fun c => AV.at_ c.1) = [AV.at_ a, AV.at_ p] ++ qs.map AV.at_ := by
    show (([_, _] : List (Addr × List AV)) ++ _).map _ = _
    rw [List.map_append]
    refine congrArg ([AV.at_ a, AV.at_ p] ++ ·) ?_
    rw [show (fun c : Addr × List AV => AV.at_ c.1) = (AV.at_ ∘ Prod.fst) from rfl, ← List.map_map, List.map_fst_zip (by rw [List.length_map, C1.len]; exact Nat.le_refl _)]
  have efst : cs.map (·.1) = a :: p :: qs := by
    show (([_, _] : List (Addr × List AV)) ++ _).map _ = _
    rw [List.map_append, List.map_fst_zip (by rw [List.length_map, C1.len]; exact Nat.le_refl _)]
    rfl
  have ndc : (a :: p :: qs).Nodup := List.nodup_cons.mpr ⟨C.ne, C1.nd⟩
  have inst : ∀ c ∈ cs, (c.1, Ck.lst, c.2) ∈ st := fun c hc => by
    rcases List.mem_append.mp hc with m | m
    · simp only [List.mem_cons, List.not_mem_nil, or_false] at m
      rcases m with rfl | rfl
      · exact C.bxs
      · exact C.hds.mp
    · obtain ⟨j, hj⟩ := List.mem_iff_getElem?.mp m
      obtain ⟨z1, z2⟩ := List.getElem?_zip_eq_some.mp hj
      rw [List.getElem?_map] at z2
      cases q : hs2[j]? with
      | none => rw [q] at z2; cases z2
      | some l =>
        rw [q] at z2
        rw [← Option.some.inj z2]
        exact C.hds.mq j _ l z1 q
  have few : ∀ c ∈ cs, c.2.length ≤ 100 := fun c hc => by
    rcases List.mem_append.mp hc with m | m
    · simp only [List.mem_cons, List.not_mem_nil, or_false] at m
      rcases m with rfl | rfl
      · show ((zs.map PyData.str).map AV.dat).length ≤ 100
        rw [List.length_map, List.length_map, hz.length_eq, hn.len]; omega
      · show (qs.map AV.at_).length ≤ 100
        rw [List.length_map, C.hds.len, hl2]; omega
    · have := (List.of_mem_zip m).2
      obtain ⟨l, hl, e⟩ := List.mem_map.mp this
      rw [← e, List.length_map]
      have := P2.few l hl
      omega
  refine m_cons (m_forO (j := 10) PassesOwn.never rfl (pg_name (i := 10) scRight.nd rfl (Or.inl rfl)) (k_var 8 rfl rfl ⟨r, cs.map (fun c => AV.at_ c.1), fun i st' ss' => ∃ o10 : Option AV, ss' = [some (.dat (progD bs hs)), some (.dat (.list (natD os))), some (.dat (.list (news.map .str))), some (.dat (.str (keptD bs hs os news).shown)), some (.dat (.list (natD (List.range hs.length)))), some (.dat (.str (progD zs hs2).shown)), o6, some (.at_ t), some (.at_ r), some (.at_ sz), o10, none, none] ∧ nbS [o10] = true ∧ (r, Ck.lst, cs.map (fun c => AV.at_ c.1)) ∈ st' ∧ (sz, Ck.lst, (natD szs).map AV.dat) ∈ st' ∧
      ∀ (m : Nat) (c : Addr × List AV), cs[m]? = some c → (c.1, Ck.lst, c.2 ++ if m < i then [AV.dat .none] else []) ∈ st', rfl, by rw [ecs]; exact inc2 _ mr, ⟨_, rfl, hb10, by rw [ecs]; exact inc2 _ mr, msz, fun m c hc => ?_⟩, fun i st' ss' hI => hI.choose_spec.2.2.1, fun i x st' ss' hx hI => ?_, fun st' ss' hI => ?_⟩))
  · rw [if_neg (Nat.not_lt_zero _), List.append_nil]
    exact inc2 _ (inc _ (inst c (List.mem_of_getElem? hc)))
  · obtain ⟨p10, rfl, hp10, hr1, hsz1, hcs⟩ := hI
    rw [List.getElem?_map] at hx
    cases hc : cs[i]? with
    | none => rw [hc] at hx; cases hx
    | some c =>
      rw [hc] at hx
      cases Option.some.inj hx
      have m0 := hcs i c hc
      rw [if_neg (Nat.lt_irrefl i), List.append_nil] at m0
      have mc := List.mem_of_getElem? hc
      have nr := frr _ (inst c mc)
      show MSs _ _ _ st' [some (.dat (progD bs hs)), some (.dat (.list (natD os))), some (.dat (.list (news.map .str))), some (.dat (.str (keptD bs hs os news).shown)), some (.dat (.list (natD (List.range hs.length)))), some (.dat (.str (progD zs hs2).shown)), o6, some (.at_ t), some (.at_ r), some (.at_ sz), some (.at_ c.1), none, none] _
      refine m_one (m_app (k_var 10 rfl rfl ⟨c.1, _, rfl, m0, me_lift (k_non ⟨_, m0, by have := few c mc; omega, _, rfl, rfl, stSet_ne hr1 nr.1.symm, stSet_ne hsz1 nr.2.symm, fun m c2 hc2 => ?_⟩)⟩))
      by_cases e : m = i
      · subst e
        rw [hc] at hc2
        cases Option.some.inj hc2
        rw [if_pos (Nat.lt_succ_self _)]
        exact stSet_at m0
      · have ne : c2.1 ≠ c.1 := fun e2 => by
          have f1 : (cs.map (·.1))[m]? = some c2.1 := by rw [List.getElem?_map, hc2]; rfl
          have f2 : (cs.map (·.1))[i]? = some c.1 := by rw [List.getElem?_map, hc]; rfl
          rw [efst] at f1 f2
          rw [e2] at f1
          exact e ((List.getElem?_inj (List.getElem?_eq_some_iff.mp f1).1 ndc).mp (f1.trans f2.symm))
        have m2 := hcs m c2 hc2
        have ei : (m < i + 1) = (m < i) := by
          refine propext ⟨fun h => by omega, fun h => by omega⟩
        simp only [ei]
        exact stSet_ne m2 ne
  · obtain ⟨p10, rfl, hp10, hr1, hsz1, hcs⟩ := hI
    have lcs : (cs.map (fun c => AV.at_ c.1)).length = 2 + hs.length := by
      rw [ecs, List.length_append, List.length_map, C1.len, hl2]
      rfl
    have hfin : ∀ (m : Nat) (c : Addr × List AV), cs[m]? = some c → (c.1, Ck.lst, c.2 ++ [AV.dat .none]) ∈ st' := fun m c hc => by
      have lt := (List.getElem?_eq_some_iff.mp hc).1
      rw [List.length_map] at hcs
      have := hcs m c hc
      rw [if_pos lt] at this
      exact this
    let hs3 : List (List PyData) := hs2.map (· ++ [.none])
    have z0 := hfin 0 _ rfl
    have z1 := hfin 1 _ rfl
    have zq : ∀ (j : Nat) (q : Addr) (l : List PyData), qs[j]? = some q → hs3[j]? = some l → (q, Ck.lst, l.map AV.dat) ∈ st' := fun j q l hq hl => by
      rw [List.getElem?_map] at hl
      cases h2 : hs2[j]? with
      | none => rw [h2] at hl; cases hl
      | some l0 =>
        rw [h2] at hl
        cases Option.some.inj hl
        have := hfin (j + 2) (q, l0.map AV.dat) (by
          show (qs.zip (hs2.map fun l => l.map AV.dat))[j]? = _
          exact List.getElem?_zip_eq_some.mpr ⟨hq, by rw [List.getElem?_map, h2]; rfl⟩)
        rw [List.map_append]
        exact this
    have l3 : qs.length = hs3.length := by rw [C1.len]; exact (List.length_map _).symm
    have sq := splA_cells l3 zq
    let LS2 : List PyData := [.list (zs.map .str ++ [.none]), .list (hs3.map .list ++ [.none])] ++ hs3.map .list
    have sp2 : Spl st' (.at_ r) (.list LS2) := by
      rw [ecs] at hr1
      refine .lst hr1 (SplA.app (.cons (.lst z0 ?_) (.cons (.lst z1 (SplA.app sq (.cons (.dat _) .nil))) .nil)) sq)
      exact SplA.app SplA.dats (.cons (.dat _) .nil)
    have hLS2 : ∀ d ∈ LS2, isL d = true := fun d hd => by
      rcases List.mem_append.mp hd with m | m
      · simp only [List.mem_cons, List.not_mem_nil, or_false] at m
        rcases m with rfl | rfl <;> rfl
      · obtain ⟨l, _, rfl⟩ := List.mem_map.mp m
        rfl
    have lLS2 : LS2.length = 2 + hs.length := by
      show ([_, _] ++ hs3.map PyData.list).length = _
      rw [List.length_append, List.length_map, ← l3, C1.len, hl2]
      rfl
    have eL : LS2.map lenD = szs := by
      rw [← eN]
      show ([_, _] ++ hs3.map PyData.list).map lenD = (([_, _] ++ hs2.map PyData.list).map lenD).map (· + 1)
      simp only [List.map_append, List.map_map, hs3]
      refine congr (congrArg HAppend.hAppend ?_) (List.map_congr_left fun l hl => ?_)
      · show [(zs.map PyData.str ++ [PyData.none]).length, (hs2.map (PyData.list ∘ fun x => x ++ [PyData.none]) ++ [PyData.none]).length] = [(zs.map PyData.str).length + 1, (hs2.map PyData.list).length + 1]
        rw [List.length_append, List.length_append, List.length_map, List.length_map, List.length_map]
        rfl
      · show (l ++ [PyData.none]).length = l.length + 1
        rw [List.length_append]
        rfl
    show MSs _ _ _ st' [some (.dat (progD bs hs)), some (.dat (.list (natD os))), some (.dat (.list (news.map .str))), some (.dat (.str (keptD bs hs os news).shown)), some (.dat (.list (natD (List.range hs.length)))), some (.dat (.str (progD zs hs2).shown)), o6, some (.at_ t), some (.at_ r), some (.at_ sz), p10, none, none] _
    refine m_one (m_if (kt_tmp (ss' := [some (.dat (progD bs hs)), some (.dat (.list (natD os))), some (.dat (.list (news.map .str))), some (.dat (.str (keptD bs hs os news).shown)), some (.dat (.list (natD (List.range hs.length)))), some (.dat (.str (progD zs hs2).shown)), o6, some (.at_ t), some (.dat (.list LS2)), some (.dat (.list (natD szs))), p10, none, none]) ((Thaw.refl.set (i := 8) rfl sp2).set (i := 9) rfl (.lst hsz1 SplA.dats)) (kt_w (kw_or (kt_cm (dc_ne hr.units) (k_ofN (kn_lc (own := [("_law_one", 10)]) (g := gName 10) rfl scRight.nd (blkOk_by (N := nRight) (sc := defScope lRight) (by decide +kernel)) (tgok1 10) (fun _ _ _ _ _ => pg_name (i := 10) scRight.nd rfl (Or.inl rfl)) (ki_list (k_var 8 rfl rfl ?_)))))))))
    refine ⟨by rw [lLS2]; omega, fun i es => es = natD ((LS2.take i).map lenD), by rfl, fun i d acc hd hp => ?_, fun es hes => ?_⟩
    · subst hp
      obtain ⟨l, rfl, e⟩ := lens_eq hLS2 i hd
      refine fun _ _ _ _ _ => k_cB dl_len rfl B.len b_len (ka_cons (k_var 10 rfl rfl (ka_nil ?_)))
      show _ = _
      rw [e]
      unfold natD
      rw [List.map_append]
      rfl
    have hes : es = natD ((LS2.take LS2.length).map lenD) := hes
    rw [List.take_length, eL] at hes
    subst hes
    have cm := nat_cm hsz.1 hsz.2
    refine k_var 9 rfl rfl (@Cm.neS _ _ _ (Classical.propDecidable _) cm cm ?_)
    simp only [decide_true]
    refine kw_or1 (kt_cm dc_sne (k_cB (dl_reprA hg hr.units) rfl B.repr b_repr (ka_cons (k_lst (ka_cons (k_var 0 rfl rfl (ka_cons (k_var 1 rfl rfl (ka_cons (k_var 2 rfl rfl (ka_nil ⟨Nat.le_of_ble_eq_true rfl, ka_nil ⟨k1, k2, k3, k_var 3 rfl rfl (iteN (fun h => absurd rfl h) (fun _ => ?_))⟩⟩)))))))))))
    refine m_nil (hN _ _ _ _ _ ?_)
    simp only [nbS, List.all_cons, List.all_nil, Bool.and_true, Bool.and_eq_true] at hp10 ⊢
    exact ⟨rfl, rfl, rfl, hp10⟩
end
end K61


namespace K61
open PySem PySem.Spec PyProof.Rows L2 Kp
section
variable {base : Heap} {K : PySem.W.Frag} {w : World} {P : Program} {mg : Str → Option Value}
theorem l_right (B : Blt mg) (D : Calls5 P w K mg base) (Dc : Dn P w K mg base "_law_called" 2 cLCal) (Db : Dn P w K mg base "_law_back" 1 cBack) (F : Fn0 K mg "_law_right" lRight ["_law_program", "_law_order_here", "_law_news"]) : DnG P w K mg base "_law_right" 10 cRightT := by
  refine dnGM F scRight (fun as R ⟨_, _, _, _, e, _⟩ => by subst e; rfl) fun f cdv A outer s H E w0 as R hg hr hC => ?_
  obtain ⟨bs, hs, os, news, rfl, Pp, ho, hn, hR⟩ := hC
  have h4 := Pp.h4
  have b4 := Pp.b1
  obtain ⟨k1, k2, k3⟩ := (kept_rp Pp ho hn).top (by decide) (by decide)
  have oR : Od hs.length (List.range hs.length) := ⟨List.Perm.refl _⟩
  have pB : bs.Perm bs := List.Perm.refl _
  obtain ⟨p1, p2, p3⟩ := Pp.rp.top (by decide) (by decide)
  show MSs _ _ _ [] [some (.dat (progD bs hs)), some (.dat (.list (natD os))), some (.dat (.list (news.map .str))), none, none, none, none, none, none, none, none, none, none] _
  refine m_cons (m_lift (ks_set 3 scRight.nd rfl (.inl rfl) (k_cB (dl_reprA hg hr.units) rfl B.repr b_repr (ka_cons (k_lst (ka_cons (k_var 0 rfl rfl (ka_cons (k_var 1 rfl rfl (ka_cons (k_var 2 rfl rfl (ka_nil ⟨Nat.le_of_ble_eq_true rfl, ka_nil ⟨k1, k2, k3, ?_⟩⟩))))))))))))
  show MSs _ _ _ [] [some (.dat (progD bs hs)), some (.dat (.list (natD os))), some (.dat (.list (news.map .str))), some (.dat (.str (keptD bs hs os news).shown)), none, none, none, none, none, none, none, none, none] _
  refine m_cons (m_lift (ks_set 4 scRight.nd rfl (.inl rfl) (k_ofN (kn_rng rfl rfl B.list rfl B.range (k_cB dl_len rfl B.len b_len (ka_cons (k_var 1 rfl rfl (ka_nil ⟨?_, ?_, ?_⟩))))))))
  · omega
  · rw [natD_len, ho.len]; omega
  rw [natD_len, ho.len, Int.toNat_natCast, range_natD]
  show MSs _ _ _ [] [some (.dat (progD bs hs)), some (.dat (.list (natD os))), some (.dat (.list (news.map .str))), some (.dat (.str (keptD bs hs os news).shown)), some (.dat (.list (natD (List.range hs.length)))), none, none, none, none, none, none, none, none] _
  refine m_cons (m_lift (ks_set 5 scRight.nd rfl (.inl rfl) (k_cB (dl_reprA hg hr.units) rfl B.repr b_repr (ka_cons (k_cd Dc hr (by decide) rfl (ka_cons (k_var 0 rfl rfl (ka_cons (k_var 1 rfl rfl (ka_cons (k_var 2 rfl rfl (ka_nil ⟨rfl, bs, hs, os, news, rfl, Pp, ho, hn, fun zs hz hu => ?_⟩))))))))))))
  have P2 := Pp.cal ho hn hz hu
  obtain ⟨q1, q2, q3⟩ := P2.rp.top (by decide) (by decide)
  refine ka_nil ⟨q1, q2, q3, ?_⟩
  show MSs _ _ _ [] [some (.dat (progD bs hs)), some (.dat (.list (natD os))), some (.dat (.list (news.map .str))), some (.dat (.str (keptD bs hs os news).shown)), some (.dat (.list (natD (List.range hs.length)))), some (.dat (.str (progD zs (calH (nF bs news) hs os)).shown)), none, none, none, none, none, none, none] _
  refine m_cons (m_for PassesOwn.never rfl (fun _ => tgok1 6) (pg_name (i := 6) scRight.nd rfl (Or.inl rfl)) (ki_rng1 rfl B.range (k_int ⟨by decide, by decide, ?_⟩)))
  refine ⟨fun i st' ss' => ∃ o6 o7 o8 o9 o10, ss' = [some (.dat (progD bs hs)), some (.dat (.list (natD os))), some (.dat (.list (news.map .str))), some (.dat (.str (keptD bs hs os news).shown)), some (.dat (.list (natD (List.range hs.length)))), some (.dat (.str (progD zs (calH (nF bs news) hs os)).shown)), o6, o7, o8, o9, o10, none, none] ∧ nbS [o10] = true, ⟨_, _, _, _, _, rfl, rfl⟩, fun i d st' ss' hd hI => ?_, fun st' ss' hI => ?_⟩
  · obtain ⟨o6, o7, o8, o9, o10, rfl, hb⟩ := hI
    refine m_clear (right_turn (o6 := some (.dat d)) B D hg hr Pp ho hn hz hu hb fun st2 p7 p8 p9 p10 hb2 => ⟨_, _, _, _, _, rfl, ?_⟩)
    simp only [nbS, List.all_cons, List.all_nil, Bool.and_true, Bool.and_eq_true] at hb2 ⊢
    exact hb2.2.2.2
  obtain ⟨o6, o7, o8, o9, o10, rfl, hb⟩ := hI
  refine m_clear ?_
  refine m_cons (m_if (kt_cm dc_sne (k_cB (dl_reprA hg hr.units) rfl B.repr b_repr (ka_cons (k_cdK D.h hr (by decide) rfl (ka_cons (k_var 0 rfl rfl (ka_nil (kk_cons (k_var 1 rfl rfl (kk_nil ⟨rfl, rfl, rfl, bs, hs, _, _, os, bs, rfl, Pp, .inr ⟨rfl, ho⟩, .inl ⟨rfl, rfl⟩, fun z2 hz2 hu2 => ?_⟩)))))))))))
  have PB := Pp.cal ho Pp.nw hz2 hu2
  obtain ⟨r1, r2, r3⟩ := PB.rp.top (by decide) (by decide)
  refine ka_nil ⟨r1, r2, r3, k_cB (dl_reprA hg hr.units) rfl B.repr b_repr (ka_cons (k_cd Dc hr (by decide) rfl (ka_cons (k_var 0 rfl rfl (ka_cons (k_var 1 rfl rfl (ka_cons (k_idx (fun _ _ => rfl) (k_var 0 rfl rfl (k_int ⟨_, atI_nat (j := 0) rfl, ka_nil ⟨rfl, bs, hs, os, bs, rfl, Pp, ho, Pp.nw, fun z3 hz3 hu3 => ?_⟩⟩))))))))))⟩
  cases srt_one Pp.nd hz3 hu3 hz2 hu2
  refine ka_nil ⟨r1, r2, r3, iteN (fun h => absurd rfl h) (fun _ => m_nil ?_)⟩
  refine m_cons (m_if (kt_cm dc_sne (k_cB (dl_reprA hg hr.units) rfl B.repr b_repr (ka_cons (k_cdK D.b hr (by decide) rfl (ka_cons (k_var 0 rfl rfl (ka_nil (kk_cons (k_var 2 rfl rfl (kk_nil ⟨rfl, rfl, rfl, bs, hs, _, _, List.range hs.length, news, rfl, Pp, .inl ⟨rfl, rfl⟩, .inr ⟨rfl, hn⟩, fun z4 hz4 hu4 => ?_⟩)))))))))))
  cases srt_one hn.nd hz4 hu4 hz hu
  have PC := Pp.cal oR hn hz hu
  obtain ⟨s1, s2, s3⟩ := PC.rp.top (by decide) (by decide)
  refine ka_nil ⟨s1, s2, s3, k_cB (dl_reprA hg hr.units) rfl B.repr b_repr (ka_cons (k_cd Dc hr (by decide) rfl (ka_cons (k_var 0 rfl rfl (ka_cons (k_var 4 rfl rfl (ka_cons (k_var 2 rfl rfl (ka_nil ⟨rfl, bs, hs, List.range hs.length, news, rfl, Pp, oR, hn, fun z5 hz5 hu5 => ?_⟩)))))))))⟩
  cases srt_one hn.nd hz5 hu5 hz hu
  refine ka_nil ⟨s1, s2, s3, iteN (fun h => absurd rfl h) (fun _ => m_nil ?_)⟩
  refine m_cons (m_if (kt_w (kw_or (kt_cm dc_sne (k_cB (dl_reprA hg hr.units) rfl B.repr b_repr (ka_cons (k_cdD D.n hr (by decide) rfl (ka_cons (k_var 0 rfl rfl (ka_nil ⟨rfl, bs, hs, _, _, List.range hs.length, bs, rfl, Pp, .inl ⟨rfl, rfl⟩, .inl ⟨rfl, rfl⟩, fun z6 hz6 hu6 => ?_⟩))))))))))
  cases srt_one Pp.nd hz6 hu6 pB Pp.up
  rw [cal_id Pp]
  refine ka_nil ⟨p1, p2, p3, k_cB (dl_reprA hg hr.units) rfl B.repr b_repr (ka_cons (k_var 0 rfl rfl (ka_nil ⟨p1, p2, p3, iteN (fun h => absurd rfl h) (fun _ => ?_)⟩)))⟩
  refine kw_or1 (kt_cm dc_sne (k_cB (dl_reprA hg hr.units) rfl B.repr b_repr (ka_cons (k_cdK D.hb hr (by decide) rfl (ka_cons (k_var 0 rfl rfl (ka_nil (kk_cons (k_non (kk_cons (k_non (kk_nil ⟨rfl, rfl, rfl, bs, hs, _, _, List.range hs.length, bs, rfl, Pp, .inl ⟨rfl, rfl⟩, .inl ⟨rfl, rfl⟩, fun z7 hz7 hu7 => ?_⟩))))))))))))
  cases srt_one Pp.nd hz7 hu7 pB Pp.up
  rw [cal_id Pp]
  refine ka_nil ⟨p1, p2, p3, k_cB (dl_reprA hg hr.units) rfl B.repr b_repr (ka_cons (k_var 0 rfl rfl (ka_nil ⟨p1, p2, p3, iteN (fun h => absurd rfl h) (fun _ => m_nil ?_)⟩)))⟩
  refine m_cons (m_lift (ks_asg (g := gTup K 2 (gCons (gName 11) (gCons (gName 12) gNil))) (tgok2 11 12 (by decide)) (pg_tup rfl (pgs_cons (pg_name (i := 11) scRight.nd rfl (Or.inl rfl)) (pgs_cons (pg_name (i := 12) scRight.nd rfl (Or.inl rfl)) pgs_nil))) (k_cd Db hr (by decide) rfl (ka_cons (k_var 0 rfl rfl (ka_cons (k_var 1 rfl rfl (ka_cons (k_var 2 rfl rfl (ka_nil ⟨rfl, bs, hs, os, news, rfl, Pp, ho, hn, fun z8 hz8 hu8 => ?_⟩))))))))))
  cases srt_one hn.nd hz8 hu8 hz hu
  show MSs _ _ _ [] [some (.dat (progD bs hs)), some (.dat (.list (natD os))), some (.dat (.list (news.map .str))), some (.dat (.str (keptD bs hs os news).shown)), some (.dat (.list (natD (List.range hs.length)))), some (.dat (.str (progD zs (calH (nF bs news) hs os)).shown)), o6, o7, o8, o9, o10, some (.dat (.list (natD (invO os)))), some (.dat (.list ((zs.map (nF news bs)).map .str)))] _
  have hl2 : (calH (nF bs news) hs os).length = hs.length := by rw [calH_len, ho.len]
  obtain ⟨hnb, pnb⟩ := Nw.back Pp hn hz
  refine m_one (m_ret (k_cm dc_seq (k_cB (dl_reprA hg hr.units) rfl B.repr b_repr (ka_cons (k_cdK D.hb hr (by decide) rfl (ka_cons (k_cdK D.hb hr (by decide) rfl (ka_cons (k_var 0 rfl rfl (ka_nil (kk_cons (k_var 1 rfl rfl (kk_cons (k_var 2 rfl rfl (kk_nil ⟨rfl, rfl, rfl, bs, hs, _, _, os, news, rfl, Pp, .inr ⟨rfl, ho⟩, .inr ⟨rfl, hn⟩, fun z9 hz9 hu9 => ?_⟩)))))))))))))))
  cases srt_one hn.nd hz9 hu9 hz hu
  refine ka_nil (kk_cons (k_var 11 rfl rfl (kk_cons (k_var 12 rfl rfl (kk_nil ⟨rfl, rfl, rfl, zs, calH (nF bs news) hs os, _, _, invO os, zs.map (nF news bs), rfl, P2, .inr ⟨rfl, by rw [hl2]; exact ho.inv⟩, .inr ⟨rfl, hnb⟩, fun zA hzA huA => ?_⟩)))))
  cases srt_one hnb.nd hzA huA pnb Pp.up
  rw [cal_back Pp ho hn hz]
  refine ka_nil ⟨p1, p2, p3, k_cB (dl_reprA hg hr.units) rfl B.repr b_repr (ka_cons (k_var 0 rfl rfl (ka_nil ⟨p1, p2, p3, ?_⟩)))⟩
  show R (.dat (.bool (decide ((progD bs hs).shown = (progD bs hs).shown))))
  rw [decide_eq_true rfl]
  exact hR
abbrev nLaw : List Str := ["_law_script", "_law_k", "_law_pool_here", "_law_program", "_law_order_here"]
theorem scLaw : FnScope nLaw ["_law_script"] (defScope lLaw) := ⟨rfl, rfl, rfl, by decide +kernel, rfl, by decide +kernel, by decide +kernel⟩
theorem law_body {f : Addr} {cdv : Value} {A : Around} {outer : List Env} {s : Shared} {H : Hp} {E : XK} {w0 : Wl} {as : List AV} {R : AV → Prop} (B : Blt mg) (Dp : Dn P w K mg base "_law_pool" 1 cPool) (Ds : Dn P w K mg base "_law_small" 4 cSmall)
    (Do : Dn P w K mg base "_law_order" 2 cLOrd) (Dn_ : Dn P w K mg base "_law_new_names" 3 cNewN) (Dr : DnG P w K mg base "_law_right" 10 cRightT) (hg : A.guards = some []) (hr : Room 10 (A.deeper (envOfC "law" (defScope lLaw) s.heap.objs.size f cdv))) (hC : cLaw as R) :
    KSs (cxB P w K mg base nLaw "law" (defScope lLaw) f cdv A outer s H E) w0 (defBody lLaw) (ss0 nLaw.length as) { nx := fun _ => R (.dat .none), rt := R } := by
  obtain ⟨ns, rfl, hl, hR⟩ := hC
  show KSs _ _ _ [some (.scr ns), none, none, none, none] _
  refine ks_cons (ks_for PassesOwn.never rfl (tgok1 1) (pg_name (i := 1) scLaw.nd rfl (Or.inl rfl)) (ki_rng1 rfl B.range (k_cB (dl_max rfl) rfl B.max b_max (ka_cons (k_int (ka_cons (k_cB (dl_min rfl) rfl B.min b_min (ka_cons (k_cB dl_len rfl B.len b_len (ka_cons (k_var 0 rfl rfl (ka_nil (ka_cons (k_int (ka_nil (ka_nil ?_))))))))))))))))
  obtain ⟨cnt, ec, e3, e4⟩ : ∃ cnt : Int, (if (if (30 : Int) < (ns.length : Int) then (30 : Int) else (ns.length : Int)) > 2 then (if (30 : Int) < (ns.length : Int) then (30 : Int) else (ns.length : Int)) else 2) = cnt ∧ cnt ≤ 30 ∧ 2 ≤ cnt := ⟨_, rfl, by split <;> split <;> omega, by split <;> omega⟩
  dsimp only [Kp.int2S, Kp.onInt]
  rw [ec]
  refine ⟨by omega, by omega, fun _ ss' => ∃ o1 o2 o3 o4, ss' = [some (.scr ns), o1, o2, o3, o4], ⟨_, _, _, _, rfl⟩, fun i d ss' hd hI => ?_, fun ss' hI => ?_⟩
  · obtain ⟨o1, o2, o3, o4, rfl⟩ := hI
    obtain ⟨hi, rfl⟩ := rangeD_at hd
    show KSs _ _ _ [some (.scr ns), some (.dat (.int (0 + (i : Int)))), o2, o3, o4] _
    refine ks_cons (ks_set 2 scLaw.nd rfl (.inl rfl) (k_cd Dp hr (by decide) rfl (ka_cons (k_var 0 rfl rfl (ka_cons (k_var 1 rfl rfl (ka_nil ⟨rfl, ns, 0 + (i : Int), rfl, hl, by omega, by omega, ?_⟩)))))))
    show KSs _ _ _ [some (.scr ns), some (.dat (.int (0 + (i : Int)))), some .pool, o3, o4] _
    refine ks_cons (ks_set 3 scLaw.nd rfl (.inl rfl) (k_cd Ds hr (by decide) rfl (ka_cons (k_var 2 rfl rfl (ka_cons (k_int (ka_cons (k_int (ka_nil ⟨rfl, 4, 4, rfl, by decide, by decide, by decide, by decide, fun bs hs hb hh => ?_⟩)))))))))
    have Pp := Pv.of hb hh
    have h4 := Pp.h4
    show KSs _ _ _ [some (.scr ns), some (.dat (.int (0 + (i : Int)))), some .pool, some (.dat (progD bs hs)), o4] _
    refine ks_cons (ks_set 4 scLaw.nd rfl (.inl rfl) (k_cd Do hr (by decide) rfl (ka_cons (k_var 2 rfl rfl (ka_cons (k_cB dl_len rfl B.len b_len (ka_cons (k_idx (fun _ _ => rfl) (k_var 3 rfl rfl (k_int ⟨_, atI_nat (j := 1) rfl, ka_nil (ka_nil ⟨rfl, hs.length, by rw [List.length_map], h4.2, fun os ho => ?_⟩)⟩))))))))))
    show KSs _ _ _ [some (.scr ns), some (.dat (.int (0 + (i : Int)))), some .pool, some (.dat (progD bs hs)), some (.dat (.list (natD os)))] _
    refine ks_one (ks_if (kt_not (kt_val (k_cg Dr hg hr (by decide) rfl (ka_cons (k_var 3 rfl rfl (ka_cons (k_var 4 rfl rfl (ka_cons (k_cd Dn_ hr (by decide) rfl (ka_cons (k_var 2 rfl rfl (ka_cons (k_var 3 rfl rfl (ka_nil ⟨rfl, bs, hs, rfl, Pp, fun news hn => ka_nil ⟨rfl, bs, hs, os, news, rfl, Pp, ho, hn, ks_nil ⟨_, _, _, _, rfl⟩⟩⟩)))))))))))))))
  · obtain ⟨o1, o2, o3, o4, rfl⟩ := hI
    exact ks_one (ks_ret (k_bl hR))
end
end K61


namespace Kp
open PySem PySem.Spec PyProof.Rows L2
/-- a def with keyword-only parameters, as the top has it -/
theorem fnd0_mk {mg : Str → Option Value} {K : PySem.W.Frag} {h : Heap} {x : Str} {st : Stmt} {kws : List (Str × V)} {f : Addr} {oc kV dc pm cd ct : Value} {od an : Option Addr} {sl : Array (Option Value)} (X : K.In h) (G : h.Ns mainGlobals mg) (a : PySem.W.nsIn K mainGlobals x = some (some (.ref f)))
    (l : K.lookup f = some ⟨oc, od, .func (PySem.W.fnOf x x (defArgs st) (defBody st) (defScope st) .none kV dc pm an cd ct), sl⟩) (c : PySem.W.codeIn K cd x = true) (k : PySem.W.keepIn K (.ref f) = true) (kw : KwdV K kV kws) : FnD0 K mg x st kws :=
  ⟨f, _, ⟨⟨oc, od, .none, kV, dc, pm, an, cd, ct, sl, rfl, l, c, .inl ⟨rfl, rfl⟩, kw⟩, k⟩, PySem.W.mg_of X G a⟩
theorem kinds_wt {K : PySem.W.Frag} {D : Addr} {c : Value} {dd : Option Addr} {es : Array DictEntry} {n : Nat} {sl : Array (Option Value)} (h : K.lookup D = some ⟨c, dd, .dict es n, sl⟩) (ok : entOk K es.toList deedsL = true) (ok2 : tupOk K es.toList = true) (z : Str) (ks : List Kd) (hz : kindsOf z = some ks) :
    ∃ p, PySem.W.nsIn K D z = some (some (.ref p)) ∧ WT K p (ks.map kdD) := by
  refine ns_wt h ok ok2 z ?_
  rw [found_kinds]
  unfold kindsV
  rw [hz]
end Kp


namespace K61
open PySem PySem.Spec PyProof.Rows L2 Kp
/-- what else the top says of NoProgram, where it is caught -/
structure NPe (K : PySem.W.Frag) (C0 : Addr) : Prop where
  te : PySem.W.exmOne K (.ref C0) (.ref C0) = some true
  ve : PySem.W.kitOne K (.ref C0) (.type "ValueError") = some true
  E : ExcC K C0
  F : XfC K C0
section
variable {K : PySem.W.Frag} {mg : Str → Option Value} {h : Heap}
theorem ve_mk {C0 : Addr} (e : PySem.W.subIn K (.ref C0) (.type "ValueError") = some true) : PySem.W.kitOne K (.ref C0) (.type "ValueError") = some true := by
  unfold PySem.W.kitOne
  have e2 : (Value.ref C0 == Value.type "ValueError") = false := beq_eq_false_iff_ne.mpr fun z => by cases z
  rw [e2, if_neg Bool.false_ne_true]
  show (if PySem.W.kitMeta "ValueError" = true then PySem.W.subIn K (.ref C0) (.type "ValueError") else none) = _
  rw [if_pos (by decide +kernel)]
  exact e
theorem np_mk {C fI : Addr} {nm q : Str} {N : Addr} {bs bm : List Value} {sn : List Str} {sub : List Value} {ab : Bool} {col : Option Bool} {dd : Option Addr} {k0 k1 k2 k3 k5 : Option Value} {oc kV dc pm cd ct : Value} {od an : Option Addr} {sl : Array (Option Value)} (X : K.In h) (G : h.Ns mainGlobals mg)
    (a1 : PySem.W.nsIn K mainGlobals "NoProgram" = some (some (.ref C))) (a2 : K.lookup C = some (excClassObj nm q C N bs bm true sn sub ab col dd k0 k1 k2 k3 k5 "ValueError.__new__")) (a3 : PySem.HandSPX.refsVE bm = true) (a4 : PySem.W.findIn K (.ref C) "__setattr__" = some (some (.builtin "object.__setattr__"))) (a5 : PySem.W.subIn K (.ref C) (.type "BaseException") = some true)
    (a6 : PySem.W.typeIn K (.ref C) = some (.type "type")) (a7 : PySem.W.keepIn K (.ref C) = true) (n1 : PySem.W.findIn K (.ref C) "part" = some none) (n2 : PySem.W.findIn K (.ref C) "hand" = some none) (n3 : PySem.W.findIn K (.ref C) "number" = some none)
    (a8 : PySem.W.findIn K (.ref C) "__init__" = some (some (.ref fI))) (a9 : PySem.W.typeIn K (.ref fI) = some (.type "function")) (a10 : K.lookup fI = some ⟨oc, od, .func (PySem.W.fnOf "__init__" "NoProgram.__init__" (defArgs sInitNP) (defBody sInitNP) (defScope sInitNP) .none kV dc pm an cd ct), sl⟩)
    (a11 : PySem.W.codeIn K cd "NoProgram.__init__" = true) (a12 : PySem.W.keepIn K (.ref fI) = true) (a13 : ∀ us : List Value, us.length = (["self", "part", "hand", "number"] : List Str).length → bindArgs (PySem.W.fnOf "__init__" "NoProgram.__init__" (defArgs sInitNP) (defBody sInitNP) (defScope sInitNP) .none kV dc pm an cd ct) ⟨us, []⟩ = pure ((["self", "part", "hand", "number"] : List Str).zip us))
    (a14 : PySem.W.findIn K (.ref C) "__getattribute__" = some (some (.builtin "BaseException.__getattribute__"))) (a15 : PySem.W.findIn K (.ref C) "__getattr__" = some none) (a16 : PySem.W.hasDictIn K C = true) (a17 : PySem.W.findIn K (.ref C) "__class__" = some (some (.builtin "object.__class__")))
    (a18 : PySem.W.specialIn K (.builtin "object.__class__") "__get__" = some (some (.builtin "getset_descriptor.__get__"))) (a19 : PySem.W.takesIn K (.builtin "object.__class__") = some true) (a20 : PySem.W.mroIn K C (.type "object") = some true) (a21 : PySem.W.subIn K (.ref C) (.ref C) = some true) (a22 : PySem.W.subIn K (.ref C) (.type "ValueError") = some true) :
    (∃ fd, NPt K mg C fI fd) ∧ NPe K C :=
  ⟨⟨_, ⟨⟨⟨nm, q, N, bs, bm, sn, sub, ab, col, dd, k0, k1, k2, k3, k5, a2, a3⟩, a4, a5, a6, a7⟩, n1, n2, n3, a8, a9, PySem.W.mg_of X G a1, fun_mk (st := sInitNP) a10 a11 a12, Binds.all a13⟩⟩, ⟨PySem.W.exm_ref a5 a16 a6 a21, ve_mk a22, ⟨a14, a15, a5, a16, a17, a18, a19, a20⟩, ⟨a14, a15, a5, a16⟩⟩⟩
end
end K61
namespace K61
open PySem PySem.Spec PyProof.Rows L2 Kp
structure Tops (K : PySem.W.Frag) (w : World) (mg : Str → Option Value) (C0 : Addr) : Prop where
  B : Blt mg
  n_enumerate : mg "enumerate" = none
  n_sum : mg "sum" = none
  n_set : mg "set" = none
  n_dict : mg "dict" = none
  c_LETTERS : ∃ t, mg "LETTERS" = some (.str abc t)
  c_NAME_LETTERS : ∃ t, mg "NAME_LETTERS" = some (.int 6 t)
  c_MOST_BOXES : ∃ t, mg "MOST_BOXES" = some (.int 4 t)
  c_MOST_HANDS : ∃ t, mg "MOST_HANDS" = some (.int 4 t)
  c_HAND_DEEDS : ∃ t, mg "HAND_DEEDS" = some (.int 8 t)
  c_MOST_DEEDS : ∃ t, mg "MOST_DEEDS" = some (.int 16 t)
  deeds : ∃ (D : Addr) (es : Array DictEntry) (n : Nat), KDict K w D es n ∧ mg "DEEDS" = some (.ref D) ∧ entOk K es.toList deedsL = true ∧ tupOk K es.toList = true
  np : ∃ fI, (∃ fd, K61.NPt K mg C0 fI fd) ∧ K61.NPe K C0
  g_called : FnD0 K mg "called" sCalled kwC
  f_is_name : Fn0 K mg "is_name" sName ["thing"]
  f_is_whole : Fn0 K mg "is_whole" sWhole ["thing"]
  f_is_from_to : Fn0 K mg "is_from_to" sBetw ["thing", "least", "most"]
  f_is_list : Fn0 K mg "is_list" sIsList ["thing", "least", "most"]
  f_is_worded : Fn0 K mg "is_worded" sWorded ["thing"]
  f_has_parts : Fn0 K mg "has_parts" sParts ["boxes", "kinds", "thing"]
  f_is_of : Fn0 K mg "_is_of" sIsOf ["boxes", "kind", "part"]
  f_look_at : Fn0 K mg "look_at" sLookAt ["thing"]
  f_is_deed : Fn0 K mg "is_deed" sIsDeed ["boxes", "thing"]
  f_wrong_box : Fn0 K mg "_wrong_box" sWrong ["boxes"]
  f_look_at_boxes : Fn0 K mg "_look_at_boxes" sLBoxes ["boxes"]
  f_look_at_hands : Fn0 K mg "_look_at_hands" sLHands ["hands"]
  f_look_at_deeds : Fn0 K mg "_look_at_deeds" sLDeeds ["boxes", "hands"]
  f_is_order : Fn0 K mg "is_order" sIsOrder ["thing", "many"]
  f_names_of : Fn0 K mg "_names_of" sNamesOf ["program", "hands", "boxes"]
  f_are_names : Fn0 K mg "_are_names" sAreNames ["thing", "many"]
  f_olds : Fn0 K mg "_olds" sOlds ["order"]
  f_called : Fn0 K mg "_called" sCal ["kinds", "parts", "names"]
  f_law_pool : Fn0 K mg "_law_pool" lPool ["_law_script", "_law_k"]
  f_law_take : Fn0 K mg "_law_take" lTake ["_law_pool_here", "_law_size"]
  f_law_picked : Fn0 K mg "_law_picked" lPicked ["_law_pool_here", "_law_menu", "_law_size"]
  f_law_deed : Fn0 K mg "_law_deed" lDeed ["_law_pool_here", "_law_shelves", "_law_names", "_law_way"]
  f_law_small : Fn0 K mg "_law_small" lSmall ["_law_pool_here", "_law_most", "_law_upto"]
  f_law_order : Fn0 K mg "_law_order" lOrder ["_law_pool_here", "_law_size"]
  f_law_new_names : Fn0 K mg "_law_new_names" lNewN ["_law_pool_here", "_law_program"]
  f_law_deed_by : Fn0 K mg "_law_deed_by" lDeedBy ["_law_deed_here", "_law_names"]
  f_law_called : Fn0 K mg "_law_called" lCalled ["_law_program", "_law_order_here", "_law_news"]
  f_law_back : Fn0 K mg "_law_back" lBack ["_law_program", "_law_order_here", "_law_news"]
  f_law_right : Fn0 K mg "_law_right" lRight ["_law_program", "_law_order_here", "_law_news"]
section
variable {base : Heap} {K : PySem.W.Frag} {w : World} {P : Program} {mg : Str → Option Value}
theorem law_ok {f : Addr} {fd : FuncData} {C0 : Addr} (T : Tops K w mg C0) (F : Fun K "law" "law" lLaw f fd) : FnG P w K mg base 11 f fd ["_law_script"] (spA K cLaw) := by
  have B := T.B
  obtain ⟨fI, ⟨fdI, Np⟩, Ne⟩ := T.np
  have w1 : Dn P w K mg base "is_whole" 1 cWhole := d_whole B T.f_is_whole
  have w2 : Dn P w K mg base "is_from_to" 2 cBetw := d_betw B w1 T.f_is_from_to
  have w3 : Dn P w K mg base "is_name" 1 cName := d_name B T.c_LETTERS T.c_NAME_LETTERS T.f_is_name
  have w4 : Dn P w K mg base "_is_of" 3 cIsOf := d_isof B w3 w2 T.f_is_of
  have w6 := d_worded (P := P) (w := w) (base := base) B T.f_is_worded
  have w7 := d_parts (P := P) (w := w) (base := base) B w4 T.f_has_parts
  obtain ⟨D, es, n, KD, gD, ok, ok2⟩ := T.deeds
  have w5 : Dn P w K mg base "is_deed" 5 cDeed := d_deed B KD gD (fun z => by
    have q := ns_dd KD.at_ ok z
    rw [found_kinds] at q
    exact q) w6 w7 T.f_is_deed
  have w8 := d_islist (P := P) (w := w) (base := base) B T.f_is_list
  have w9 := d_wrong (P := P) (w := w) (base := base) B T.n_enumerate w3 T.f_wrong_box
  have x1 := d_lboxes (P := P) (w := w) (base := base) Np T.c_MOST_BOXES w8 w9 T.f_look_at_boxes
  have x2 := d_lhands (P := P) (w := w) (base := base) Np T.n_enumerate T.c_MOST_HANDS T.c_HAND_DEEDS w8 T.f_look_at_hands
  have x3 := d_ldeeds (P := P) (w := w) (base := base) B Np T.n_enumerate T.n_sum T.c_MOST_DEEDS w5 T.f_look_at_deeds
  have x4 := d_look (P := P) (w := w) (base := base) B Np x1 x2 x3 T.f_look_at
  have y1 := d_order (P := P) (w := w) (base := base) B w8 w1 T.f_is_order
  have y2 := d_arenames (P := P) (w := w) (base := base) B T.n_set w8 w3 T.f_are_names
  have y3 := d_olds (P := P) (w := w) (base := base) B T.n_enumerate T.f_olds
  have y4 := d_cal1 (P := P) (w := w) (base := base) B T.f_called
  have y5 := d_namesof (P := P) (w := w) (base := base) B x4 y1 y2 T.f_names_of
  obtain ⟨fC, fdC, DC⟩ := d_called (P := P) (w := w) (base := base) B KD gD (kinds_wt KD.at_ ok ok2) y5 y3 y4 T.g_called
  have C5 : Calls5 P w K mg base := ⟨DC.kw (kb_hb DC.F), DC.kwD cal_data (kb_hb DC.F), DC.kwD cal_data (kb_bh DC.F), DC.kwD cal_data (kb_h DC.F), DC.kwD cal_data (kb_b DC.F), DC.noD cal_data (b_none DC.F)⟩
  have v1 : Dn P w K mg base "_law_take" 1 cTake := l_take T.f_law_take
  have v2 : Dn P w K mg base "_law_pool" 1 cPool := l_pool B T.f_law_pool
  have v3 : Dn P w K mg base "_law_picked" 2 cPicked := l_picked B v1 T.f_law_picked
  have v4 : Dn P w K mg base "_law_deed" 2 cMk := l_mk B v1 T.f_law_deed
  have v5 : Dn P w K mg base "_law_small" 4 cSmall := small_data (l_small B v1 v3 v4 T.f_law_small)
  have v6 := l_orderD (l_order (P := P) (w := w) (base := base) B v1 T.f_law_order)
  have v7 := l_newn (P := P) (w := w) (base := base) B T.n_enumerate v3 T.f_law_new_names
  have q1 := l_deedby (P := P) (w := w) (base := base) T.f_law_deed_by
  have q2 := l_calledD (l_called (P := P) (w := w) (base := base) B T.n_enumerate T.n_dict q1 T.f_law_called)
  have q3 := l_back (P := P) (w := w) (base := base) B T.n_dict T.f_law_back
  have q4 := l_right (P := P) (w := w) (base := base) B C5 q2 q3 T.f_law_right
  exact okGA F scLaw (fun as R ⟨ns, e, _⟩ => by subst e; rfl) fun cdv A outer s H E w0 as R hg hr hC => law_body B v2 v5 v6 v7 q4 hg hr hC
theorem all_mk {h : Heap} {fa f : Addr} {oc kV dc pm cd ct : Value} {od an : Option Addr} {sl : Array (Option Value)} {C0 : Addr} (X : K.In h) (G : h.Ns mainGlobals mg) (hfa : mg "law" = some (.ref fa)) (T : Tops K w mg C0)
    (a : PySem.W.nsIn K mainGlobals "law" = some (some (.ref f))) (l : K.lookup f = some ⟨oc, od, .func (PySem.W.fnOf "law" "law" (defArgs lLaw) (defBody lLaw) (defScope lLaw) .none kV dc pm an cd ct), sl⟩) (c : PySem.W.codeIn K cd "law" = true) (k : PySem.W.keepIn K (.ref f) = true) :
    ∃ fd : FuncData, (∀ (s : Shared) (u : Value), BindsTo s fd ⟨[u], []⟩ [("_law_script", u)]) ∧ ∀ base : Heap, K.In base → base.Ns mainGlobals mg → FnG P w K mg base 11 fa fd ["_law_script"] (spA K cLaw) := by
  have e := hfa.symm.trans (PySem.W.mg_of X G a)
  cases e
  exact ⟨_, fun s u => .of_eq rfl, fun base _ _ => law_ok T (fun_mk (st := lLaw) l c k)⟩
end
end K61


open PySem PySem.W PyProof.Rows
set_option maxHeartbeats 0
open_top head61 for PySem.Challenge.rw_readsfrom_k61_programs_called_otherwise
theorem PySem.Challenge.cw_readsfrom_k61_programs_called_otherwise_holds : PySem.Challenge.rw_readsfrom_k61_programs_called_otherwise.Holds :=
  head61 (by
  k_fill
  refine Kp.walkG (l := PySem.Challenge.rw_readsfrom_k61_programs_called_otherwise) (k := 11) (x := "_law_script") rfl rfl ⟨rfl, by decide, by decide⟩ (fun w h Y => PySem.W.kIn_of Y) ?F
  case F =>
    intro w mg fa h KX G hmg
    refine' K61.all_mk KX G hmg ?T ?a ?l ?c ?k
    case a => k_is
    case l => k_is
    case c => k_is
    case k => k_is
    case T =>
      refine' ⟨?B, ?n_enumerate, ?n_sum, ?n_set, ?n_dict, ?c_LETTERS, ?c_NAME_LETTERS, ?c_MOST_BOXES, ?c_MOST_HANDS, ?c_HAND_DEEDS, ?c_MOST_DEEDS, ?deeds, ⟨_, ?np⟩, ?g_called, ?f_is_name, ?f_is_whole, ?f_is_from_to, ?f_is_list, ?f_is_worded, ?f_has_parts, ?f_is_of, ?f_look_at, ?f_is_deed, ?f_wrong_box, ?f_look_at_boxes, ?f_look_at_hands, ?f_look_at_deeds, ?f_is_order, ?f_names_of, ?f_are_names, ?f_olds, ?f_called, ?f_law_pool, ?f_law_take, ?f_law_picked, ?f_law_deed, ?f_law_small, ?f_law_order, ?f_law_new_names, ?f_law_deed_by, ?f_law_called, ?f_law_back, ?f_law_right⟩
      case B =>
        refine' ⟨?b1, ?b2, ?b3, ?b4, ?b5, ?b6, ?b7, ?b8, ?b9, ?b10, ?b11, ?b12, ?b13, ?b14⟩
        all_goals (refine' PySem.W.mg_none_of KX G ?z; (case z => k_is))
      case n_enumerate => (refine' PySem.W.mg_none_of KX G ?z; (case z => k_is))
      case n_sum => (refine' PySem.W.mg_none_of KX G ?z; (case z => k_is))
      case n_set => (refine' PySem.W.mg_none_of KX G ?z; (case z => k_is))
      case n_dict => (refine' PySem.W.mg_none_of KX G ?z; (case z => k_is))
      case c_LETTERS =>
        refine' Kp.str_mk KX G ?z ?y
        case z => k_is
        case y => first | rfl | decide +kernel
      case c_NAME_LETTERS =>
        refine' Kp.int_mk KX G ?z ?y
        case z => k_is
        case y => first | rfl | decide +kernel
      case c_MOST_BOXES =>
        refine' Kp.int_mk KX G ?z ?y
        case z => k_is
        case y => first | rfl | decide +kernel
      case c_MOST_HANDS =>
        refine' Kp.int_mk KX G ?z ?y
        case z => k_is
        case y => first | rfl | decide +kernel
      case c_HAND_DEEDS =>
        refine' Kp.int_mk KX G ?z ?y
        case z => k_is
        case y => first | rfl | decide +kernel
      case c_MOST_DEEDS =>
        refine' Kp.int_mk KX G ?z ?y
        case z => k_is
        case y => first | rfl | decide +kernel
      case deeds =>
        refine' ⟨_, _, _, ⟨?at_, ?lit, ?low⟩, PySem.W.mg_of KX G ?gd, ?en2, ?tp⟩
        case gd => k_is
        case at_ => k_is
        case low => rfl
        case lit => exact ⟨⟨_, _, rfl, rfl⟩, ⟨_, _, rfl, rfl⟩, ⟨_, _, rfl, rfl⟩, ⟨_, _, rfl, rfl⟩, ⟨_, _, rfl, rfl⟩, ⟨_, _, rfl, rfl⟩, ⟨_, _, rfl, rfl⟩, ⟨_, _, rfl, rfl⟩, ⟨_, _, rfl, rfl⟩, trivial⟩
        case en2 => first | decide +kernel | exact Eq.refl true | with_unfolding_all rfl
        case tp => first | decide +kernel | exact Eq.refl true | with_unfolding_all rfl
      case np =>
        refine' K61.np_mk KX G ?p1 ?p2 ?p3 ?p4 ?p5 ?p6 ?p7 ?n1 ?n2 ?n3 ?p8 ?p9 ?p10 ?p11 ?p12 (fun us hl => match us, hl with | [_, _, _, _], _ => rfl) ?p14 ?p15 ?p16 ?p17 ?p18 ?p19 ?p20 ?p21 ?p22
        case p1 => k_is
        case p2 => k_is
        case p3 => first | rfl | decide +kernel
        case p8 => k_is
        case p10 => k_is
        all_goals k_is
      case g_called =>
        refine' Kp.fnd0_mk KX G ?a ?l ?c ?k ?kw
        (case a => k_is); (case l => k_is); (case c => k_is); (case k => k_is)
        case kw => exact He.kwdB_ok (by first | decide +kernel | exact Eq.refl true | with_unfolding_all rfl)
      case f_is_name =>
        refine' Kp.fn0_mk KX G ?a ?l ?c ?k (fun us hl => match us, hl with | [_], _ => rfl)
        (case a => k_is); (case l => k_is); (case c => k_is); (case k => k_is)
      case f_is_whole =>
        refine' Kp.fn0_mk KX G ?a ?l ?c ?k (fun us hl => match us, hl with | [_], _ => rfl)
        (case a => k_is); (case l => k_is); (case c => k_is); (case k => k_is)
      case f_is_from_to =>
        refine' Kp.fn0_mk KX G ?a ?l ?c ?k (fun us hl => match us, hl with | [_, _, _], _ => rfl)
        (case a => k_is); (case l => k_is); (case c => k_is); (case k => k_is)
      case f_is_list =>
        refine' Kp.fn0_mk KX G ?a ?l ?c ?k (fun us hl => match us, hl with | [_, _, _], _ => rfl)
        (case a => k_is); (case l => k_is); (case c => k_is); (case k => k_is)
      case f_is_worded =>
        refine' Kp.fn0_mk KX G ?a ?l ?c ?k (fun us hl => match us, hl with | [_], _ => rfl)
        (case a => k_is); (case l => k_is); (case c => k_is); (case k => k_is)
      case f_has_parts =>
        refine' Kp.fn0_mk KX G ?a ?l ?c ?k (fun us hl => match us, hl with | [_, _, _], _ => rfl)
        (case a => k_is); (case l => k_is); (case c => k_is); (case k => k_is)
      case f_is_of =>
        refine' Kp.fn0_mk KX G ?a ?l ?c ?k (fun us hl => match us, hl with | [_, _, _], _ => rfl)
        (case a => k_is); (case l => k_is); (case c => k_is); (case k => k_is)
      case f_look_at =>
        refine' Kp.fn0_mk KX G ?a ?l ?c ?k (fun us hl => match us, hl with | [_], _ => rfl)
        (case a => k_is); (case l => k_is); (case c => k_is); (case k => k_is)
      case f_is_deed =>
        refine' Kp.fn0_mk KX G ?a ?l ?c ?k (fun us hl => match us, hl with | [_, _], _ => rfl)
        (case a => k_is); (case l => k_is); (case c => k_is); (case k => k_is)
      case f_wrong_box =>
        refine' Kp.fn0_mk KX G ?a ?l ?c ?k (fun us hl => match us, hl with | [_], _ => rfl)
        (case a => k_is); (case l => k_is); (case c => k_is); (case k => k_is)
      case f_look_at_boxes =>
        refine' Kp.fn0_mk KX G ?a ?l ?c ?k (fun us hl => match us, hl with | [_], _ => rfl)
        (case a => k_is); (case l => k_is); (case c => k_is); (case k => k_is)
      case f_look_at_hands =>
        refine' Kp.fn0_mk KX G ?a ?l ?c ?k (fun us hl => match us, hl with | [_], _ => rfl)
        (case a => k_is); (case l => k_is); (case c => k_is); (case k => k_is)
      case f_look_at_deeds =>
        refine' Kp.fn0_mk KX G ?a ?l ?c ?k (fun us hl => match us, hl with | [_, _], _ => rfl)
        (case a => k_is); (case l => k_is); (case c => k_is); (case k => k_is)
      case f_is_order =>
        refine' Kp.fn0_mk KX G ?a ?l ?c ?k (fun us hl => match us, hl with | [_, _], _ => rfl)
        (case a => k_is); (case l => k_is); (case c => k_is); (case k => k_is)
      case f_names_of =>
        refine' Kp.fn0_mk KX G ?a ?l ?c ?k (fun us hl => match us, hl with | [_, _, _], _ => rfl)
        (case a => k_is); (case l => k_is); (case c => k_is); (case k => k_is)
      case f_are_names =>
        refine' Kp.fn0_mk KX G ?a ?l ?c ?k (fun us hl => match us, hl with | [_, _], _ => rfl)
        (case a => k_is); (case l => k_is); (case c => k_is); (case k => k_is)
      case f_olds =>
        refine' Kp.fn0_mk KX G ?a ?l ?c ?k (fun us hl => match us, hl with | [_], _ => rfl)
        (case a => k_is); (case l => k_is); (case c => k_is); (case k => k_is)
      case f_called =>
        refine' Kp.fn0_mk KX G ?a ?l ?c ?k (fun us hl => match us, hl with | [_, _, _], _ => rfl)
        (case a => k_is); (case l => k_is); (case c => k_is); (case k => k_is)
      case f_law_pool =>
        refine' Kp.fn0_mk KX G ?a ?l ?c ?k (fun us hl => match us, hl with | [_, _], _ => rfl)
        (case a => k_is); (case l => k_is); (case c => k_is); (case k => k_is)
      case f_law_take =>
        refine' Kp.fn0_mk KX G ?a ?l ?c ?k (fun us hl => match us, hl with | [_, _], _ => rfl)
        (case a => k_is); (case l => k_is); (case c => k_is); (case k => k_is)
      case f_law_picked =>
        refine' Kp.fn0_mk KX G ?a ?l ?c ?k (fun us hl => match us, hl with | [_, _, _], _ => rfl)
        (case a => k_is); (case l => k_is); (case c => k_is); (case k => k_is)
      case f_law_deed =>
        refine' Kp.fn0_mk KX G ?a ?l ?c ?k (fun us hl => match us, hl with | [_, _, _, _], _ => rfl)
        (case a => k_is); (case l => k_is); (case c => k_is); (case k => k_is)
      case f_law_small =>
        refine' Kp.fn0_mk KX G ?a ?l ?c ?k (fun us hl => match us, hl with | [_, _, _], _ => rfl)
        (case a => k_is); (case l => k_is); (case c => k_is); (case k => k_is)
      case f_law_order =>
        refine' Kp.fn0_mk KX G ?a ?l ?c ?k (fun us hl => match us, hl with | [_, _], _ => rfl)
        (case a => k_is); (case l => k_is); (case c => k_is); (case k => k_is)
      case f_law_new_names =>
        refine' Kp.fn0_mk KX G ?a ?l ?c ?k (fun us hl => match us, hl with | [_, _], _ => rfl)
        (case a => k_is); (case l => k_is); (case c => k_is); (case k => k_is)
      case f_law_deed_by =>
        refine' Kp.fn0_mk KX G ?a ?l ?c ?k (fun us hl => match us, hl with | [_, _], _ => rfl)
        (case a => k_is); (case l => k_is); (case c => k_is); (case k => k_is)
      case f_law_called =>
        refine' Kp.fn0_mk KX G ?a ?l ?c ?k (fun us hl => match us, hl with | [_, _, _], _ => rfl)
        (case a => k_is); (case l => k_is); (case c => k_is); (case k => k_is)
      case f_law_back =>
        refine' Kp.fn0_mk KX G ?a ?l ?c ?k (fun us hl => match us, hl with | [_, _, _], _ => rfl)
        (case a => k_is); (case l => k_is); (case c => k_is); (case k => k_is)
      case f_law_right =>
        refine' Kp.fn0_mk KX G ?a ?l ?c ?k (fun us hl => match us, hl with | [_, _, _], _ => rfl)
        (case a => k_is); (case l => k_is); (case c => k_is); (case k => k_is)
  )
