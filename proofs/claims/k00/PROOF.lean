import PyProof.Rows.All
import Wide.All
import OpenK.AllK
import Wide.FinOn
import HandS.ForMost
import HandS.ForExc
import HandS.ExcInit
import HandS.ExcField
import HandS.ExcIs
import HandS.Gcd
import HandS.Wide
import HandS.IsInst
import HandS.TupAny
import HandS.CallSlots
import HandS.Conv
import HandS.Evl
import HandS.HotCalls
import HandS.TryOnly
import HandS.Flow
import HandS.Zip
import HandS.Style
import HandS.Defaults
import HandS.ExcCtx
import KE.KExcIs
import HandS.Rev
import HandS.WideBits
import HandS.StrMore
import PySem.Challenge.RW_hungwall_k00_kinds_quotients_places
-- HwA
set_option Elab.async false
set_option linter.all false
set_option maxRecDepth 100000
set_option maxHeartbeats 2000000
namespace Hw
open PySem L2
abbrev Ex := Evl.Ex

/-! ## data over a frozen heap -/
mutual
/-- a value that is this piece of data, all of it laid in H -/
inductive Hs (K : PySem.W.Frag) (H : Hp) : V → PyData → Prop
  | non : Hs K H .non .none
  | bl (b : Bool) : Hs K H (.bl b) (.bool b)
  | int (i : Int) : Hs K H (.int i) (.int i)
  | str (x : Str) : Hs K H (.str x) (.str x)
  | lst {a : Addr} {xs : List V} {ds : List PyData} : H a = some (.lst xs) → HsA K H xs ds → Hs K H (.ref a) (.list ds)
  | tup {a : Addr} {xs : List V} {ds : List PyData} : SqT K H a xs → HsA K H xs ds → Hs K H (.ref a) (.tuple ds)
inductive HsA (K : PySem.W.Frag) (H : Hp) : List V → List PyData → Prop
  | nil : HsA K H [] []
  | cons {v : V} {vs : List V} {d : PyData} {ds : List PyData} : Hs K H v d → HsA K H vs ds → HsA K H (v :: vs) (d :: ds)
end
mutual
theorem hs_dp {K : PySem.W.Frag} {H : Hp} : ∀ (d : PyData) (v : V), Hs K H v d → Dp K H v d
  | .none, _, h => by cases h; exact .non
  | .bool b, _, h => by cases h; exact .bl b
  | .int i, _, h => by cases h; exact .int i
  | .str x, _, h => by cases h; exact .str x
  | .list ds, _, h => by
    cases h with
    | lst hs ha => exact .lst (Evl.sq_of hs) (hs_dpA ds _ ha)
  | .tuple ds, _, h => by
    cases h with
    | tup hs ha => exact .tup hs (hs_dpA ds _ ha)
  | .dict _, _, h => by cases h
theorem hs_dpA {K : PySem.W.Frag} {H : Hp} : ∀ (ds : List PyData) (vs : List V), HsA K H vs ds → DpAll K H vs ds
  | [], _, h => by cases h; exact .nil
  | d :: ds, _, h => by
    cases h with
    | cons h1 h2 => exact .cons (hs_dp d _ h1) (hs_dpA ds _ h2)
end
mutual
theorem dpm {K : PySem.W.Frag} {H H' : Hp} (e : Ex H H') : ∀ (d : PyData) (v : V), Hs K H v d → Hs K H' v d
  | .none, _, h => by cases h; exact .non
  | .bool b, _, h => by cases h; exact .bl b
  | .int i, _, h => by cases h; exact .int i
  | .str x, _, h => by cases h; exact .str x
  | .list ds, _, h => by
    cases h with
    | lst hs ha => exact .lst (e _ _ hs) (dpmA e ds _ ha)
  | .tuple ds, _, h => by
    cases h with
    | tup hs ha => exact .tup (Evl.ex_t e hs) (dpmA e ds _ ha)
  | .dict _, _, h => by cases h
theorem dpmA {K : PySem.W.Frag} {H H' : Hp} (e : Ex H H') : ∀ (ds : List PyData) (vs : List V), HsA K H vs ds → HsA K H' vs ds
  | [], _, h => by cases h; exact .nil
  | d :: ds, _, h => by
    cases h with
    | cons h1 h2 => exact .cons (dpm e d _ h1) (dpmA e ds _ h2)
end
theorem dpA_len {K : PySem.W.Frag} {H : Hp} : ∀ {ds : List PyData} {vs : List V}, HsA K H vs ds → vs.length = ds.length
  | [], _, h => by cases h; rfl
  | d :: ds, _, h => by
    cases h with
    | cons h1 h2 => simp [dpA_len h2]
theorem dpA_get {K : PySem.W.Frag} {H : Hp} : ∀ {ds : List PyData} {vs : List V} {i : Nat} {v : V}, HsA K H vs ds → vs[i]? = some v → ∃ d, ds[i]? = some d ∧ Hs K H v d
  | [], _, _, _, h, e => by cases h; simp at e
  | d :: ds, _, 0, v, h, e => by
    cases h with
    | cons h1 h2 => simp at e; subst e; exact ⟨d, rfl, h1⟩
  | d :: ds, _, i + 1, v, h, e => by
    cases h with
    | cons h1 h2 => exact dpA_get (i := i) h2 (by simpa using e)
theorem dpA_of {K : PySem.W.Frag} {H : Hp} : ∀ {ds : List PyData} {vs : List V} {i : Nat} {d : PyData}, HsA K H vs ds → ds[i]? = some d → ∃ v, vs[i]? = some v ∧ Hs K H v d
  | [], _, _, _, h, e => by simp at e
  | d :: ds, _, 0, v, h, e => by
    cases h with
    | cons h1 h2 => simp at e; subst e; exact ⟨_, rfl, h1⟩
  | d :: ds, _, i + 1, v, h, e => by
    cases h with
    | cons h1 h2 => simpa using dpA_of (i := i) h2 (by simpa using e)
theorem dpA_app {K : PySem.W.Frag} {H : Hp} : ∀ {ds es : List PyData} {vs us : List V}, HsA K H vs ds → HsA K H us es → HsA K H (vs ++ us) (ds ++ es)
  | [], _, _, _, h, g => by cases h; exact g
  | d :: ds, _, _, _, h, g => by
    cases h with
    | cons h1 h2 => exact .cons h1 (dpA_app h2 g)
theorem dpA_drop {K : PySem.W.Frag} {H : Hp} : ∀ {n : Nat} {ds : List PyData} {vs : List V}, HsA K H vs ds → HsA K H (vs.drop n) (ds.drop n)
  | 0, _, _, h => by simpa using h
  | n + 1, [], _, h => by cases h; exact .nil
  | n + 1, d :: ds, _, h => by
    cases h with
    | cons h1 h2 => simpa using dpA_drop (n := n) h2
theorem dpA_take {K : PySem.W.Frag} {H : Hp} : ∀ {n : Nat} {ds : List PyData} {vs : List V}, HsA K H vs ds → HsA K H (vs.take n) (ds.take n)
  | 0, _, _, h => by simpa using HsA.nil
  | n + 1, [], _, h => by cases h; exact .nil
  | n + 1, d :: ds, _, h => by
    cases h with
    | cons h1 h2 => simpa using HsA.cons h1 (dpA_take (n := n) h2)
theorem dpA_set {K : PySem.W.Frag} {H : Hp} {v : V} {d : PyData} (h0 : Hs K H v d) : ∀ {i : Nat} {ds : List PyData} {vs : List V}, HsA K H vs ds → HsA K H (vs.set i v) (ds.set i d)
  | _, [], _, h => by cases h; exact .nil
  | 0, e :: ds, _, h => by
    cases h with
    | cons h1 h2 => exact .cons h0 h2
  | i + 1, e :: ds, _, h => by
    cases h with
    | cons h1 h2 => exact .cons h1 (dpA_set h0 h2)
theorem dpA_rev {K : PySem.W.Frag} {H : Hp} : ∀ {ds : List PyData} {vs : List V}, HsA K H vs ds → HsA K H vs.reverse ds.reverse
  | [], _, h => by cases h; exact .nil
  | d :: ds, _, h => by
    cases h with
    | cons h1 h2 => simpa using dpA_app (dpA_rev h2) (.cons h1 .nil)
theorem dpA_rep {K : PySem.W.Frag} {H : Hp} {ds : List PyData} {vs : List V} (h : HsA K H vs ds) : ∀ n : Nat, HsA K H (List.replicate n vs).flatten (List.replicate n ds).flatten
  | 0 => by simpa using HsA.nil
  | n + 1 => by simpa [List.replicate_succ] using dpA_app h (dpA_rep h n)
theorem dp_int {K : PySem.W.Frag} {H : Hp} {v : V} {i : Int} (h : Hs K H v (.int i)) : v = .int i := by cases h; rfl
theorem dp_bl {K : PySem.W.Frag} {H : Hp} {v : V} {b : Bool} (h : Hs K H v (.bool b)) : v = .bl b := by cases h; rfl
theorem dp_str {K : PySem.W.Frag} {H : Hp} {v : V} {z : Str} (h : Hs K H v (.str z)) : v = .str z := by cases h; rfl
theorem dp_non {K : PySem.W.Frag} {H : Hp} {v : V} (h : Hs K H v .none) : v = .non := by cases h; rfl
theorem dp_ints {K : PySem.W.Frag} {H : Hp} : ∀ {ns : List Int} {vs : List V}, HsA K H vs (ns.map PyData.int) → vs = ns.map V.int
  | [], _, h => by cases h; rfl
  | n :: ns, _, h => by
    cases h with
    | cons h1 h2 => rw [dp_int h1, dp_ints h2]; rfl
theorem dp_bools {K : PySem.W.Frag} {H : Hp} : ∀ {ns : List Bool} {vs : List V}, HsA K H vs (ns.map PyData.bool) → vs = ns.map V.bl
  | [], _, h => by cases h; rfl
  | n :: ns, _, h => by
    cases h with
    | cons h1 h2 => rw [dp_bl h1, dp_bools h2]; rfl
/-- what type a piece of data has -/
def tyD : PyData → String
  | .none => "NoneType"
  | .bool _ => "bool"
  | .int _ => "int"
  | .str _ => "str"
  | .list _ => "list"
  | .tuple _ => "tuple"
  | .dict _ => "dict"
theorem hs_ty {K : PySem.W.Frag} {H : Hp} {v : V} {d : PyData} (h : Hs K H v d) : TyX K H v (.type (tyD d)) := by
  cases h with
  | non => exact .base .non
  | bl b => exact .base (.bl b)
  | int i => exact .base (.int i)
  | str x => exact .base (.str x)
  | lst hs _ => exact .base (.lst hs)
  | tup hs _ =>
    rcases hs with (hs | ⟨o, hs⟩) | ⟨o, its, n, h1, h2, _⟩
    · exact .base (.tup hs)
    · exact .fTuple hs
    · exact .kTuple h1 h2
theorem ints_dp {K : PySem.W.Frag} {H : Hp} : ∀ (ns : List Int), HsA K H (ns.map V.int) (ns.map PyData.int)
  | [] => .nil
  | n :: ns => .cons (.int n) (ints_dp ns)

/-! ## the state told by data -/
/-- an exception of an own class: its class, its fields -/
structure XD where
  C : Addr
  fs : List (Str × PyData)
/-- what is told of a slot -/
inductive Sl where
  | un
  | val (d : PyData)
  | cell (xs : List PyData)
  | pool
  | exc (a : Addr) (c : Value) (dd : Option Addr) (x : XD)
def XIs (K : PySem.W.Frag) (F H : Hp) (c : Value) (dd : Option Addr) (x : XD) : Prop :=
  c = .ref x.C ∧ ∃ (d : Addr) (fs : List (Str × V)), dd = some d ∧ H d = some (.xd fs) ∧ fs.map (·.1) = x.fs.map (·.1) ∧ HsA K F (fs.map (·.2)) (x.fs.map (·.2))
structure Bs where
  F0 : Hp
  H0 : Hp
  M : List Addr
  pl : Option (Addr × Addr)
def plM : Option (Addr × Addr) → List Addr
  | none => []
  | some (p, l) => [p, l]
def stp (B : Bs) (F H : Hp) : Bs := ⟨F, H, plM B.pl, B.pl⟩
def PoolAt (F H : Hp) (p l : Addr) : Prop := F p = none ∧ F l = none ∧ p ≠ l ∧
  ∃ (a b c n : Int) (xs : List Int), H p = some (.lst [.ref l, .int a, .int b, .int c, .int n]) ∧ H l = some (.lst (xs.map V.int))
structure FO (B : Bs) (H F : Hp) : Prop where
  fh : Ex F H
  f0 : Ex B.F0 F
  fresh : ∀ a o, F a = some o → B.F0 a = some o ∨ B.H0 a = none
  keep : ∀ a o, B.H0 a = some o → a ∉ B.M → H a = some o
  dom : ∀ a, H a = none → B.H0 a = none
  pool : ∀ p l, B.pl = some (p, l) → PoolAt F H p l ∧ (p ∈ B.M ∨ B.H0 p = none) ∧ (l ∈ B.M ∨ B.H0 l = none)
def SlOk (K : PySem.W.Frag) (B : Bs) (H F : Hp) : Sl → Option (Option V) → Prop
  | .un, _ => True
  | .val d, x => ∃ v, x = some (some v) ∧ Hs K F v d
  | .cell ds, x => ∃ a vs, x = some (some (.ref a)) ∧ F a = none ∧ B.H0 a = none ∧ H a = some (.lst vs) ∧ HsA K F vs ds ∧ ∀ p l, B.pl = some (p, l) → a ≠ p ∧ a ≠ l
  | .pool, x => ∃ p l, B.pl = some (p, l) ∧ x = some (some (.ref p))
  | .exc a c dd xd, x => x = some (some (.ref a)) ∧ XIs K F H c dd xd
structure SO (K : PySem.W.Frag) (B : Bs) (σ : List (Option V)) (H F : Hp) (env : List Sl) : Prop where
  fo : FO B H F
  len : env.length = σ.length
  slots : ∀ (i : Nat) (s : Sl), env[i]? = some s → SlOk K B H F s σ[i]?
  apart : ∀ (i j : Nat) (xs ys : List PyData) (a : Addr), env[i]? = some (.cell xs) → env[j]? = some (.cell ys) → σ[i]? = some (some (.ref a)) → σ[j]? = some (some (.ref a)) → i = j
section
variable {K : PySem.W.Frag} {B : Bs} {σ : List (Option V)} {H F H' F' H2 F2 : Hp} {env : List Sl}
theorem FO.step (o : FO B H F) (p : FO (stp B F H) H' F') : FO B H' F' where
  fh := p.fh
  f0 := o.f0.trans p.f0
  fresh := fun a u h => by
    rcases p.fresh a u h with h | h
    · exact o.fresh a u h
    · exact .inr (o.dom a h)
  keep := fun a u h hm => by
    refine p.keep a u (o.keep a u h hm) fun hp => ?_
    cases e : B.pl with
    | none =>
      have hp : a ∈ plM B.pl := hp
      rw [e] at hp
      simp [plM] at hp
    | some q =>
      obtain ⟨p1, l1⟩ := q
      obtain ⟨_, h1, h2⟩ := o.pool p1 l1 e
      have hp : a ∈ plM B.pl := hp
      rw [e] at hp
      rcases (by simpa [plM] using hp : a = p1 ∨ a = l1) with z | z
      · subst z
        rcases h1 with z | z
        · exact hm z
        · rw [z] at h; cases h
      · subst z
        rcases h2 with z | z
        · exact hm z
        · rw [z] at h; cases h
  dom := fun a h => o.dom a (p.dom a h)
  pool := fun p1 l1 e => ⟨(p.pool p1 l1 e).1, (o.pool p1 l1 e).2⟩
theorem plM_of {p l : Addr} (e : B.pl = some (p, l)) : p ∈ plM B.pl ∧ l ∈ plM B.pl := by
  rw [e]; simp [plM]
theorem FO.refl (o : FO B H F) : FO (stp B F H) H F where
  fh := o.fh
  f0 := Evl.Ex.refl _
  fresh := fun a u h => .inl h
  keep := fun a u h _ => h
  dom := fun a h => h
  pool := fun p l e => ⟨(o.pool p l e).1, .inl (plM_of e).1, .inl (plM_of e).2⟩
theorem FO.trans (p : FO (stp B F H) H' F') (q : FO (stp B F' H') H2 F2) : FO (stp B F H) H2 F2 := FO.step (B := stp B F H) p q
theorem FO.fnone (o : FO B H F) {a : Addr} (h : H a = none) : F a = none := by
  cases e : F a with
  | none => rfl
  | some u => rw [o.fh a u e] at h; cases h
/-- a new frozen object -/
theorem FO.alloc (o : FO B H F) {p : Addr} {u : HO} (hp : H p = none) : FO (stp B F H) (upd H p u) (upd F p u) where
  fh := fun a x h => by
    by_cases e : a = p
    · subst e; rw [upd_same] at h ⊢; exact h
    · rw [upd_ne e] at h ⊢; exact o.fh a x h
  f0 := Evl.Ex.new (o.fnone hp)
  fresh := fun a x h => by
    by_cases e : a = p
    · subst e; exact .inr hp
    · rw [upd_ne e] at h; exact .inl h
  keep := fun a x h _ => by
    have h : H a = some x := h
    have e : a ≠ p := ne_of_none h hp
    rw [upd_ne e]; exact h
  dom := fun a h => by
    by_cases e : a = p
    · subst e; rw [upd_same] at h; cases h
    · rw [upd_ne e] at h; exact h
  pool := fun q l e => by
    obtain ⟨⟨f1, f2, ne, a, b, c, n, xs, h1, h2⟩, _⟩ := o.pool q l e
    refine ⟨⟨?_, ?_, ne, a, b, c, n, xs, ?_, ?_⟩, .inl (plM_of e).1, .inl (plM_of e).2⟩
    · rw [upd_ne (ne_of_none h1 hp)]; exact f1
    · rw [upd_ne (ne_of_none h2 hp)]; exact f2
    · rw [upd_ne (ne_of_none h1 hp)]; exact h1
    · rw [upd_ne (ne_of_none h2 hp)]; exact h2
/-- a new object, not frozen -/
theorem FO.lay (o : FO B H F) {p : Addr} {u : HO} (hp : H p = none) : FO (stp B F H) (upd H p u) F where
  fh := fun a x h => by
    have e : a ≠ p := ne_of_none (o.fh a x h) hp
    rw [upd_ne e]; exact o.fh a x h
  f0 := Evl.Ex.refl _
  fresh := fun a x h => .inl h
  keep := fun a x h _ => by
    have h : H a = some x := h
    have e : a ≠ p := ne_of_none h hp
    rw [upd_ne e]; exact h
  dom := fun a h => by
    by_cases e : a = p
    · subst e; rw [upd_same] at h; cases h
    · rw [upd_ne e] at h; exact h
  pool := fun q l e => by
    obtain ⟨⟨f1, f2, ne, a, b, c, n, xs, h1, h2⟩, _⟩ := o.pool q l e
    refine ⟨⟨f1, f2, ne, a, b, c, n, xs, ?_, ?_⟩, .inl (plM_of e).1, .inl (plM_of e).2⟩
    · rw [upd_ne (ne_of_none h1 hp)]; exact h1
    · rw [upd_ne (ne_of_none h2 hp)]; exact h2
theorem SO.step (o : SO K B σ H F env) (p : FO (stp B F H) H' F') : SO K B σ H' F' env where
  fo := o.fo.step p
  len := o.len
  slots := fun i s hs => by
    have h := o.slots i s hs
    cases s with
    | un => exact True.intro
    | val d =>
      obtain ⟨v, e, h⟩ := h
      exact ⟨v, e, dpm p.f0 d v h⟩
    | cell ds =>
      obtain ⟨a, vs, e, hf, h0, hh, ha, hp⟩ := h
      refine ⟨a, vs, e, ?_, h0, ?_, dpmA p.f0 ds vs ha, hp⟩
      · cases q : F' a with
        | none => rfl
        | some u =>
          rcases p.fresh a u q with z | z
          · have z : F a = some u := z
            rw [hf] at z; cases z
          · have z : H a = none := z
            rw [hh] at z; cases z
      · refine p.keep a _ hh fun hm => ?_
        have hm : a ∈ plM B.pl := hm
        cases e : B.pl with
        | none => rw [e] at hm; simp [plM] at hm
        | some q =>
          obtain ⟨p1, l1⟩ := q
          have z := hp p1 l1 e
          rw [e] at hm
          rcases (by simpa [plM] using hm : a = p1 ∨ a = l1) with y | y
          · exact z.1 y
          · exact z.2 y
    | pool => exact h
    | exc a c dd xd =>
      obtain ⟨e, ec, d, fs, ed, hd, hf, ha⟩ := h
      refine ⟨e, ec, d, fs, ed, p.keep d _ hd fun hm => ?_, hf, dpmA p.f0 _ _ ha⟩
      have hm : d ∈ plM B.pl := hm
      cases q : B.pl with
      | none => rw [q] at hm; simp [plM] at hm
      | some q' =>
        obtain ⟨p1, l1⟩ := q'
        obtain ⟨⟨_, _, _, a0, b0, c0, n0, xs0, g1, g2⟩, _⟩ := o.fo.pool p1 l1 q
        rw [q] at hm
        rcases (by simpa [plM] using hm : d = p1 ∨ d = l1) with y | y
        · rw [y, g1] at hd; cases hd
        · rw [y, g2] at hd; cases hd
  apart := o.apart
theorem getset {α : Type} (l : List α) (i j : Nat) (x : α) : (l.set i x)[j]? = if i = j then (if i < l.length then some x else none) else l[j]? := List.getElem?_set
/-- a slot is given a value -/
theorem SO.put (o : SO K B σ H F env) (i : Nat) {v : V} {d : PyData} (h : Hs K F v d) : SO K B (σ.set i (some v)) H F (env.set i (.val d)) where
  fo := o.fo
  len := by rw [List.length_set, List.length_set]; exact o.len
  slots := fun j s hs => by
    rw [getset] at hs
    by_cases e : i = j
    · subst e
      rw [if_pos rfl] at hs
      by_cases hl : i < env.length
      · rw [if_pos hl] at hs
        cases hs
        refine ⟨v, ?_, h⟩
        rw [getset, if_pos rfl, if_pos (by rw [← o.len]; exact hl)]
      · rw [if_neg hl] at hs; cases hs
    · rw [if_neg e] at hs
      rw [getset, if_neg e]
      exact o.slots j s hs
  apart := fun a b xs ys ad h1 h2 h3 h4 => by
    rw [getset] at h1 h2 h3 h4
    by_cases ea : i = a
    · subst ea
      rw [if_pos rfl] at h1
      split at h1 <;> cases h1
    · by_cases eb : i = b
      · subst eb
        rw [if_pos rfl] at h2
        split at h2 <;> cases h2
      · rw [if_neg ea] at h1 h3
        rw [if_neg eb] at h2 h4
        exact o.apart a b xs ys ad h1 h2 h3 h4
/-- a slot is forgotten -/
theorem SO.drop (o : SO K B σ H F env) (i : Nat) (x : Option V) : SO K B (σ.set i x) H F (env.set i .un) where
  fo := o.fo
  len := by rw [List.length_set, List.length_set]; exact o.len
  slots := fun j s hs => by
    rw [getset] at hs
    by_cases e : i = j
    · subst e
      rw [if_pos rfl] at hs
      by_cases hl : i < env.length
      · rw [if_pos hl] at hs
        cases hs
        exact True.intro
      · rw [if_neg hl] at hs; cases hs
    · rw [if_neg e] at hs
      rw [getset, if_neg e]
      exact o.slots j s hs
  apart := fun a b xs ys ad h1 h2 h3 h4 => by
    rw [getset] at h1 h2 h3 h4
    by_cases ea : i = a
    · subst ea
      rw [if_pos rfl] at h1
      split at h1 <;> cases h1
    · by_cases eb : i = b
      · subst eb
        rw [if_pos rfl] at h2
        split at h2 <;> cases h2
      · rw [if_neg ea] at h1 h3
        rw [if_neg eb] at h2 h4
        exact o.apart a b xs ys ad h1 h2 h3 h4
/-- a slot is given a new list of one's own -/
theorem SO.putC (o : SO K B σ H F env) (i : Nat) {a : Addr} {vs : List V} {ds : List PyData} (hf : F a = none) (h0 : B.H0 a = none) (hh : H a = some (.lst vs)) (hd : HsA K F vs ds)
    (hp : ∀ p l, B.pl = some (p, l) → a ≠ p ∧ a ≠ l) (hn : ∀ (j : Nat) (xs : List PyData), env[j]? = some (.cell xs) → σ[j]? = some (some (.ref a)) → j = i) : SO K B (σ.set i (some (.ref a))) H F (env.set i (.cell ds)) where
  fo := o.fo
  len := by rw [List.length_set, List.length_set]; exact o.len
  slots := fun j s hs => by
    rw [getset] at hs
    by_cases e : i = j
    · subst e
      rw [if_pos rfl] at hs
      by_cases hl : i < env.length
      · rw [if_pos hl] at hs
        cases hs
        refine ⟨a, vs, ?_, hf, h0, hh, hd, hp⟩
        rw [getset, if_pos rfl, if_pos (by rw [← o.len]; exact hl)]
      · rw [if_neg hl] at hs; cases hs
    · rw [if_neg e] at hs
      rw [getset, if_neg e]
      exact o.slots j s hs
  apart := fun j k xs ys ad h1 h2 h3 h4 => by
    rw [getset] at h1 h2 h3 h4
    by_cases ea : i = j
    · subst ea
      by_cases eb : i = k
      · exact eb
      · rw [if_pos rfl] at h3
        split at h3
        · cases h3
          rw [if_neg eb] at h2 h4
          exact (hn k ys h2 h4).symm
        · cases h3
    · by_cases eb : i = k
      · subst eb
        rw [if_pos rfl] at h4
        split at h4
        · cases h4
          rw [if_neg ea] at h1 h3
          exact hn j xs h1 h3
        · cases h4
      · rw [if_neg ea] at h1 h3
        rw [if_neg eb] at h2 h4
        exact o.apart j k xs ys ad h1 h2 h3 h4
/-- a list of one's own is frozen -/
theorem SO.freeze (o : SO K B σ H F env) {i : Nat} {ds : List PyData} (hi : env[i]? = some (.cell ds)) : ∃ F', Ex F F' ∧ SO K B σ H F' (env.set i (.val (.list ds))) := by
  obtain ⟨a, vs, e, hf, h0, hh, hd, hp⟩ := o.slots i _ hi
  have ef : Ex F (upd F a (.lst vs)) := Evl.Ex.new hf
  refine ⟨upd F a (.lst vs), ef, ⟨fun b x h => ?_, o.fo.f0.trans ef, fun b x h => ?_, o.fo.keep, o.fo.dom, fun q l e => ?_⟩, by rw [List.length_set]; exact o.len, fun j s hs => ?_, fun j k xs ys ad h1 h2 h3 h4 => ?_⟩
  · by_cases e : b = a
    · subst e; rw [upd_same] at h; rw [hh]; exact h
    · rw [upd_ne e] at h; exact o.fo.fh b x h
  · by_cases e : b = a
    · subst e; exact .inr h0
    · rw [upd_ne e] at h; exact o.fo.fresh b x h
  · obtain ⟨⟨f1, f2, ne, w⟩, m⟩ := o.fo.pool q l e
    have z := hp q l e
    refine ⟨⟨?_, ?_, ne, w⟩, m⟩
    · rw [upd_ne (Ne.symm z.1)]; exact f1
    · rw [upd_ne (Ne.symm z.2)]; exact f2
  · rw [getset] at hs
    by_cases ej : i = j
    · subst ej
      rw [if_pos rfl] at hs
      split at hs
      · cases hs
        exact ⟨.ref a, e, .lst upd_same (dpmA ef ds vs hd)⟩
      · cases hs
    · rw [if_neg ej] at hs
      have h := o.slots j s hs
      cases s with
      | un => exact True.intro
      | val d =>
        obtain ⟨v, e, h⟩ := h
        exact ⟨v, e, dpm ef d v h⟩
      | pool => exact h
      | exc a c dd xd =>
        obtain ⟨e, ec, d, fs, ed, hd', hf', ha'⟩ := h
        exact ⟨e, ec, d, fs, ed, hd', hf', dpmA ef _ _ ha'⟩
      | cell xs =>
        obtain ⟨a2, vs2, e2, hf2, h02, hh2, hd2, hp2⟩ := h
        refine ⟨a2, vs2, e2, ?_, h02, hh2, dpmA ef xs vs2 hd2, hp2⟩
        rw [upd_ne]
        · exact hf2
        · intro z
          subst z
          exact ej (o.apart i j ds xs a2 hi hs e e2)
  · rw [getset] at h1 h2
    by_cases ea : i = j
    · subst ea
      rw [if_pos rfl] at h1
      split at h1 <;> cases h1
    · by_cases eb : i = k
      · subst eb
        rw [if_pos rfl] at h2
        split at h2 <;> cases h2
      · rw [if_neg ea] at h1
        rw [if_neg eb] at h2
        exact o.apart j k xs ys ad h1 h2 h3 h4
end
end Hw
-- HwB
set_option Elab.async false
set_option linter.all false
set_option maxRecDepth 100000
set_option maxHeartbeats 2000000
namespace Hw
open PySem L2
abbrev DQ := PyData → Prop
abbrev XQ := XD → Prop
abbrev WE := List Sl → DQ → XQ → Prop
abbrev WT := List Sl → (Bool → Prop) → XQ → Prop
abbrev WA := List Sl → (List Sl → Prop) → XQ → Prop
def OkV (K : PySem.W.Frag) (B : Bs) (F H : Hp) (Qd : DQ) (Q : VK) : Prop := ∀ v H' F' d, FO (stp B F H) H' F' → Hs K F' v d → Qd d → Q v H'
def OkX (K : PySem.W.Frag) (B : Bs) (F H : Hp) (σ : List (Option V)) (Xd : XQ) (W : WX) : Prop := ∀ c dd H' F' x, FO (stp B F H) H' F' → XIs K F' H' c dd x → Xd x → W c dd σ H'
def LE (K : PySem.W.Frag) (W : WX) (w : WE) : TE := fun σ H Q => ∃ B F env Qd Xd, SO K B σ H F env ∧ w env Qd Xd ∧ OkV K B F H Qd Q ∧ OkX K B F H σ Xd W
def LT (K : PySem.W.Frag) (W : WX) (w : WT) : TT := fun σ H Q => ∃ B F env Qd Xd, SO K B σ H F env ∧ w env Qd Xd ∧ (∀ b H' F', FO (stp B F H) H' F' → Qd b → Q b H') ∧ OkX K B F H σ Xd W
/-- a new list, not yet frozen -/
def LF (K : PySem.W.Frag) (W : WX) (w : WE) : TE := fun σ H Q => ∃ B F env Qd Xd, SO K B σ H F env ∧ w env Qd Xd ∧
  (∀ a vs H' F' ds, FO (stp B F H) H' F' → F' a = none → H a = none → H' a = some (.lst vs) → HsA K F' vs ds → Qd (.list ds) → Q (.ref a) H') ∧ OkX K B F H σ Xd W
def AOk (K : PySem.W.Frag) (B : Bs) (F : Hp) : List V → List Sl → Prop
  | [], [] => True
  | v :: vs, .val d :: ss => Hs K F v d ∧ AOk K B F vs ss
  | v :: vs, .pool :: ss => (∃ p l, B.pl = some (p, l) ∧ v = .ref p) ∧ AOk K B F vs ss
  | _, _ => False
def LA (K : PySem.W.Frag) (W : WX) (w : WA) : TA := fun σ H Q => ∃ B F env Qd Xd, SO K B σ H F env ∧ w env Qd Xd ∧ (∀ vs H' F' ss, FO (stp B F H) H' F' → AOk K B F' vs ss → Qd ss → Q vs H') ∧ OkX K B F H σ Xd W
section
variable {K : PySem.W.Frag} {B : Bs} {F H F1 H1 : Hp} {σ : List (Option V)} {W : WX} {env : List Sl}
theorem OkV.step {Qd : DQ} {Q : VK} (h : OkV K B F H Qd Q) (s : FO (stp B F H) H1 F1) : OkV K B F1 H1 Qd Q := fun v H' F' d p => h v H' F' d (s.trans p)
theorem OkX.step {Xd : XQ} (h : OkX K B F H σ Xd W) (s : FO (stp B F H) H1 F1) : OkX K B F1 H1 σ Xd W := fun c dd H' F' x p => h c dd H' F' x (s.trans p)
theorem aok_mono {F' : Hp} (e : Ex F F') : ∀ {vs : List V} {ss : List Sl}, AOk K B F vs ss → AOk K B F' vs ss
  | [], [], h => h
  | v :: vs, .val d :: ss, h => ⟨dpm e d v h.1, aok_mono e h.2⟩
  | v :: vs, .pool :: ss, h => ⟨h.1, aok_mono e h.2⟩
  | [], _ :: _, h => h.elim
  | _ :: _, [], h => h.elim
  | _ :: _, .un :: _, h => h.elim
  | _ :: _, .cell _ :: _, h => h.elim
  | _ :: _, .exc .. :: _, h => h.elim
end
def PD (X : Cx) (W : WX) (e : Expr) (w : WE) : Prop := PE X e (LE X.K W w)
def PF (X : Cx) (W : WX) (e : Expr) (w : WE) : Prop := PE X e (LF X.K W w)
def PTd (X : Cx) (W : WX) (e : Expr) (w : WT) : Prop := PT X e (LT X.K W w)
def PWd (X : Cx) (W : WX) (e : Expr) (w : WT) : Prop := PW X e (LT X.K W w)
def PAd (X : Cx) (W : WX) (es : List Expr) (w : WA) : Prop := PA X es (LA X.K W w)
theorem pe_imp {X : Cx} {e : Expr} {t t' : TE} (h : PE X e t) (i : ∀ σ H Q, t' σ H Q → t σ H Q) : PE X e t' := ⟨fun pins s σ H Q I q => h.run pins s σ H Q I (i σ H Q q)⟩
theorem pt_imp {X : Cx} {e : Expr} {t t' : TT} (h : PT X e t) (i : ∀ σ H Q, t' σ H Q → t σ H Q) : PT X e t' := ⟨fun pins s σ H Q I q => h.run pins s σ H Q I (i σ H Q q)⟩
theorem pw_imp {X : Cx} {e : Expr} {t t' : TT} (h : PW X e t) (i : ∀ σ H Q, t' σ H Q → t σ H Q) : PW X e t' := ⟨fun wh pins s σ H Q I q => h.run wh pins s σ H Q I (i σ H Q q)⟩
theorem pa_imp {X : Cx} {e : List Expr} {t t' : TA} (h : PA X e t) (i : ∀ σ H Q, t' σ H Q → t σ H Q) : PA X e t' := ⟨fun pos pins s σ H Q I q => h.run pos pins s σ H Q I (i σ H Q q)⟩
theorem ps_imp {X : Cx} {e : Stmt} {t t' : TS} (h : PS X e t) (i : ∀ D σ H, t' D σ H → t D σ H) : PS X e t' := ⟨fun pins s σ H D I q => h.run pins s σ H D I (i D σ H q)⟩
theorem pss_imp {X : Cx} {e : List Stmt} {t t' : TS} (h : PSs X e t) (i : ∀ D σ H, t' D σ H → t D σ H) : PSs X e t' := ⟨fun pins s σ H D I q => h.run pins s σ H D I (i D σ H q)⟩

/-! ### the slots -/
def slot : List Sl → Nat → Sl
  | [], _ => .un
  | s :: _, 0 => s
  | _ :: r, i + 1 => slot r i
theorem slot_some {env : List Sl} : ∀ {i : Nat} {s : Sl}, slot env i = s → s ≠ .un → env[i]? = some s := by
  induction env with
  | nil => intro i s h n; exact absurd h.symm n
  | cons a r ih =>
    intro i s h n
    cases i with
    | zero => simp [slot] at h; simp [h]
    | succ i => simpa using ih (i := i) h n
def wVar (i : Nat) : WE := fun env Q _ => match slot env i with
  | .val d => Q d
  | _ => False
def wC (d : PyData) : WE := fun _ Q _ => Q d
def fOp2 := PyData → PyData → DQ → Prop
def wOp (f : PyData → PyData → DQ → Prop) (a b : WE) : WE := fun env Q X => a env (fun x => b env (fun y => f x y Q) X) X
def wUn (f : PyData → DQ → Prop) (a : WE) : WE := fun env Q X => a env (fun x => f x Q) X
/-- what an operation does, by data -/
def OpD (K : PySem.W.Frag) (r : R2) (f : PyData → PyData → DQ → Prop) : Prop := ∀ (B : Bs) (H F : Hp) (x y : V) (dx dy : PyData) (Qd : DQ) (Q : VK), FO B H F → Hs K F x dx → Hs K F y dy → f dx dy Qd → OkV K B F H Qd Q → r x y H Q
def UnD (K : PySem.W.Frag) (r : V → Hp → VK → Prop) (f : PyData → DQ → Prop) : Prop := ∀ (B : Bs) (H F : Hp) (x : V) (dx : PyData) (Qd : DQ) (Q : VK), FO B H F → Hs K F x dx → f dx Qd → OkV K B F H Qd Q → r x H Q
def CaD (K : PySem.W.Frag) (r : List V → Hp → VK → Prop) (f : List PyData → DQ → Prop) : Prop := ∀ (B : Bs) (H F : Hp) (xs : List V) (ds : List PyData) (Qd : DQ) (Q : VK), FO B H F → HsA K F xs ds → f ds Qd → OkV K B F H Qd Q → r xs H Q
section
variable {X : Cx} {W : WX} {a b e : Expr} {es : List Expr} {wa wb we : WE} {pos : Pos}
theorem pd_var (i : Nat) {x : Str} (hN : X.N[i]? = some x := by rfl) (hv : Vis X.env.scope x := by first | exact Or.inl rfl | exact Or.inr (Or.inl rfl) | exact Or.inr (Or.inr rfl)) (hd : (x == ("__debug__" : Str)) = false := by decide)
    (hcd : (x == ("__classdict__" : Str)) = false := by decide) : PD X W (.Name x pos) (wVar i) := by
  refine pe_imp (pe_var hN hv hd hcd) ?_
  rintro σ H Q ⟨B, F, env, Qd, Xd, so, w, ok, okx⟩
  unfold wVar at w
  split at w
  · rename_i d hs
    obtain ⟨v, e, h⟩ := so.slots i _ (slot_some hs (by simp))
    exact ⟨v, e, ok v H F d so.fo.refl h w⟩
  · exact w.elim
theorem pd_c {e : Expr} {v : V} {d : PyData} (h : PE X e (tC v)) (hd : ∀ H, Hs X.K H v d) : PD X W e (wC d) := by
  refine pe_imp h ?_
  rintro σ H Q ⟨B, F, env, Qd, Xd, so, w, ok, okx⟩
  exact ok v H F d so.fo.refl (hd F) w
theorem pd_int {i : Int} {j} : PD X W (.Constant (.int i) j pos) (wC (.int i)) := pd_c pe_int fun _ => .int i
theorem pd_bl {i : Bool} {j} : PD X W (.Constant (.bool i) j pos) (wC (.bool i)) := pd_c pe_bl fun _ => .bl i
theorem pd_non {j} : PD X W (.Constant .none j pos) (wC .none) := pd_c pe_non fun _ => .non
theorem pd_str {z : Str} {j} : PD X W (.Constant (.str z) j pos) (wC (.str z)) := pd_c pe_str fun _ => .str z
/-- two operands, an operation -/
theorem two_op {K : PySem.W.Frag} {r : R2} {f : PyData → PyData → DQ → Prop} (hr : OpD K r f) (σ : List (Option V)) (H : Hp) (Q : VK) (h : LE K W (wOp f wa wb) σ H Q) : tOp r (LE K W wa) (LE K W wb) σ H Q := by
  obtain ⟨B, F, env, Qd, Xd, so, w, ok, okx⟩ := h
  refine ⟨B, F, env, _, Xd, so, w, fun x H1 F1 dx s1 hx w1 => ?_, okx⟩
  refine ⟨B, F1, env, _, Xd, so.step s1, w1, fun y H2 F2 dy s2 hy w2 => ?_, okx.step s1⟩
  exact hr B H2 F2 x y dx dy Qd Q ((so.step s1).step s2).fo (dpm s2.f0 dx x hx) hy w2 (ok.step (s1.trans s2))
theorem pd_op {op : Operator} {r : R2} {f : PyData → PyData → DQ → Prop} (ho : OpR X (binaryOp op) r) (hr : OpD X.K r f) (ha : PD X W a wa) (hb : PD X W b wb) : PD X W (.BinOp a op b pos) (wOp f wa wb) :=
  pe_imp (pe_op ho ha hb) (two_op hr)
theorem pd_un {op : UnaryOp} {r : V → Hp → VK → Prop} {f : PyData → DQ → Prop} (ho : UnR X (unaryOp op) r) (hr : UnD X.K r f) (ha : PD X W a wa) : PD X W (.UnaryOp op a pos) (wUn f wa) := by
  refine pe_imp (pe_un ho ha) ?_
  rintro σ H Q ⟨B, F, env, Qd, Xd, so, w, ok, okx⟩
  exact ⟨B, F, env, _, Xd, so, w, fun x H1 F1 dx s1 hx w1 => hr B H1 F1 x dx Qd Q (so.step s1).fo hx w1 (ok.step s1), okx⟩
theorem pd_cmp {op : CmpOp} {r : R2} {f : PyData → PyData → DQ → Prop} (ho : OpR X (compareOp op) r) (hr : OpD X.K r f) (ha : PD X W a wa) (hb : PD X W b wb) (hm : behindInMarks op b = false) : PD X W (.Compare a [op] [b] pos) (wOp f wa wb) :=
  pe_imp (pe_cmpR ho ha hb hm) (two_op hr)
theorem pd_ix {r : R2} {f : PyData → PyData → DQ → Prop} (ho : IxR X r) (hr : OpD X.K r f) (ha : PD X W a wa) (hb : PD X W b wb) (hs : PlainIx b) : PD X W (.Subscript a b pos) (wOp f wa wb) :=
  pe_imp (pe_ix ho ha hb hs) (two_op hr)
/-- arguments -/
def aNil : WA := fun _ Q _ => Q []
def aCons (w : WE) (r : WA) : WA := fun env Q X => w env (fun d => r env (fun ss => Q (.val d :: ss)) X) X
def aPool (i : Nat) (r : WA) : WA := fun env Q X => slot env i = .pool ∧ r env (fun ss => Q (.pool :: ss)) X
theorem pad_nil : PAd X W [] aNil := by
  refine pa_imp pa_nil ?_
  rintro σ H Q ⟨B, F, env, Qd, Xd, so, w, ok, okx⟩
  exact ok [] H F [] so.fo.refl trivial w
theorem pad_cons {wr : WA} (he : PD X W e we) (hr : PAd X W es wr) (hs : starEach (e :: es) X.env = (false, eval e X.env) :: starEach es X.env := by rfl) : PAd X W (e :: es) (aCons we wr) := by
  refine pa_imp (pa_cons he hr hs) ?_
  rintro σ H Q ⟨B, F, env, Qd, Xd, so, w, ok, okx⟩
  refine ⟨B, F, env, _, Xd, so, w, fun x H1 F1 dx s1 hx w1 => ?_, okx⟩
  refine ⟨B, F1, env, _, Xd, so.step s1, w1, fun vs H2 F2 ss s2 hv w2 => ?_, okx.step s1⟩
  exact ok (x :: vs) H2 F2 (.val dx :: ss) (s1.trans s2) ⟨dpm s2.f0 dx x hx, hv⟩ w2
theorem pad_pool (i : Nat) {x : Str} {p : Pos} {wr : WA} (hr : PAd X W es wr) (hN : X.N[i]? = some x := by rfl) (hv : Vis X.env.scope x := by first | exact Or.inl rfl | exact Or.inr (Or.inl rfl) | exact Or.inr (Or.inr rfl)) (hd : (x == ("__debug__" : Str)) = false := by decide)
    (hcd : (x == ("__classdict__" : Str)) = false := by decide) (hs : starEach (.Name x p :: es) X.env = (false, eval (.Name x p) X.env) :: starEach es X.env := by rfl) : PAd X W (.Name x p :: es) (aPool i wr) := by
  refine pa_imp (pa_cons (pe_var hN hv hd hcd) hr hs) ?_
  rintro σ H Q ⟨B, F, env, Qd, Xd, so, ⟨w0, w⟩, ok, okx⟩
  obtain ⟨p, l, e, hx⟩ := so.slots i _ (slot_some w0 (by simp))
  refine ⟨.ref p, hx, ?_⟩
  exact ⟨B, F, env, _, Xd, so, w, fun vs H2 F2 ss s2 hv w2 => ok (.ref p :: vs) H2 F2 (.pool :: ss) s2 ⟨⟨p, l, e, rfl⟩, hv⟩ w2, okx⟩
/-- the data of arguments that are all data -/
def datas : List Sl → Option (List PyData)
  | [] => some []
  | .val d :: r => (datas r).map (d :: ·)
  | _ :: _ => none
theorem aok_datas {K : PySem.W.Frag} {B : Bs} {F : Hp} : ∀ {vs : List V} {ss : List Sl} {ds : List PyData}, AOk K B F vs ss → datas ss = some ds → HsA K F vs ds
  | [], [], ds, _, e => by
    have e : some [] = some ds := e
    cases e
    exact .nil
  | v :: vs, .val d :: ss, ds, h, e => by
    cases q : datas ss with
    | none => simp [datas, q] at e
    | some r =>
      simp [datas, q] at e
      subst e
      exact .cons h.1 (aok_datas h.2 q)
  | v :: vs, .pool :: ss, _, _, e => by simp [datas] at e
  | v :: vs, .un :: ss, _, h, _ => h.elim
  | v :: vs, .cell _ :: ss, _, h, _ => h.elim
  | v :: vs, .exc .. :: ss, _, h, _ => h.elim
  | [], _ :: _, _, h, _ => h.elim
  | _ :: _, [], _, h, _ => h.elim
/-- a built-in function of data -/
def wCB (f : List PyData → DQ → Prop) (wa : WA) : WE := fun env Q X => wa env (fun ss => match datas ss with
  | some ds => f ds Q
  | none => False) X
theorem la_cb {K : PySem.W.Frag} {r : List V → Hp → VK → Prop} {f : List PyData → DQ → Prop} {wa : WA} (hr : CaD K r f) (σ : List (Option V)) (H : Hp) (Q : VK) (h : LE K W (wCB f wa) σ H Q) : tCB r (LA K W wa) σ H Q := by
  obtain ⟨B, F, env, Qd, Xd, so, w, ok, okx⟩ := h
  refine ⟨B, F, env, _, Xd, so, w, fun vs H1 F1 ss s1 hv w1 => ?_, okx⟩
  try dsimp only at w1
  split at w1
  · rename_i ds hd
    exact hr B H1 F1 vs ds Qd Q (so.step s1).fo (aok_datas hv hd) w1 (ok.step s1)
  · exact w1.elim
theorem pd_cb {id : String} {r : List V → Hp → VK → Prop} {f : List PyData → DQ → Prop} {x : Str} {p : Pos} {wa : WA} (hr : CaD X.K r f) (hc : CallR X (.builtin id) r) (hg : Gl X x) (hm : X.mg x = none) (hv : bootBuiltins x = some (.builtin id)) (ha : PAd X W (e :: es) wa)
    (hn : x ≠ "__name__" := by decide) (hdb : (x == ("__debug__" : Str)) = false := by decide)
    (he : starEach (e :: es) X.env = (false, eval e X.env) :: starEach es X.env := by rfl) (hpl : (backTo pos (starEach es X.env)).any (·.1) = false := by rfl) : PD X W (.Call (.Name x p) (e :: es) [] pos) (wCB f wa) :=
  pe_imp (pe_callB hc hg hm hv ha hn hdb he hpl) (la_cb hr)
theorem pd_cty {id : String} {r : List V → Hp → VK → Prop} {f : List PyData → DQ → Prop} {x : Str} {p : Pos} {wa : WA} (hr : CaD X.K r f) (hc : CallR X (.type id) r) (hg : Gl X x) (hm : X.mg x = none) (hv : bootBuiltins x = some (.type id)) (ha : PAd X W (e :: es) wa)
    (hn : x ≠ "__name__" := by decide) (hdb : (x == ("__debug__" : Str)) = false := by decide)
    (he : starEach (e :: es) X.env = (false, eval e X.env) :: starEach es X.env := by rfl) (hpl : (backTo pos (starEach es X.env)).any (·.1) = false := by rfl) : PD X W (.Call (.Name x p) (e :: es) [] pos) (wCB f wa) :=
  pe_imp (pe_callTy hc hg hm hv ha hn hdb he hpl) (la_cb hr)
theorem pd_cfun {id : String} {r : List V → Hp → VK → Prop} {f : List PyData → DQ → Prop} {x : Str} {p : Pos} {wa : WA} (hr : CaD X.K r f) (hc : CallR X (.builtin id) r) (hg : Gl X x) (hm : X.mg x = some (.builtin id)) (ha : PAd X W (e :: es) wa)
    (hdb : (x == ("__debug__" : Str)) = false := by decide)
    (he : starEach (e :: es) X.env = (false, eval e X.env) :: starEach es X.env := by rfl) (hpl : (backTo pos (starEach es X.env)).any (·.1) = false := by rfl) : PD X W (.Call (.Name x p) (e :: es) [] pos) (wCB f wa) :=
  pe_imp (pe_callBfun hc hg hm ha hdb he hpl) (la_cb hr)
/-- tuple, list displays -/
def wTup (wa : WA) : WE := fun env Q X => wa env (fun ss => match datas ss with
  | some ds => ds.length ≤ 16777216 ∧ Q (.tuple ds)
  | none => False) X
def wLst (wa : WA) : WE := fun env Q X => wa env (fun ss => match datas ss with
  | some ds => ds.length ≤ 16777216 ∧ Q (.list ds)
  | none => False) X
theorem line_le {n : Nat} (h : n ≤ 16777216) : n ≤ sizeLine := by rw [sizeLine_eq]; exact h
theorem pd_tup {x1} {wa : WA} (ha : PAd X W es wa) : PD X W (.Tuple es x1 pos) (wTup wa) := by
  refine pe_imp (pe_tup ha) ?_
  rintro σ H Q ⟨B, F, env, Qd, Xd, so, w, ok, okx⟩
  refine ⟨B, F, env, _, Xd, so, w, fun vs H1 F1 ss s1 hv w1 => ?_, okx⟩
  try dsimp only at w1
  split at w1
  · rename_i ds hd
    have hh := aok_datas hv hd
    refine ⟨line_le (by rw [dpA_len hh]; exact w1.1), fun p hp => ?_⟩
    have fo := (so.step s1).fo
    exact ok (.ref p) _ _ (.tuple ds) (s1.trans (fo.alloc hp)) (.tup (Evl.st_of upd_same) (dpmA (Evl.Ex.new (fo.fnone hp)) ds vs hh)) w1.2
  · exact w1.elim
theorem pf_lst {wa : WA} (ha : PAd X W es wa) : PF X W (.List es pos) (wLst wa) := by
  refine pe_imp (pe_lst ha) ?_
  rintro σ H Q ⟨B, F, env, Qd, Xd, so, w, ok, okx⟩
  refine ⟨B, F, env, _, Xd, so, w, fun vs H1 F1 ss s1 hv w1 => ?_, okx⟩
  try dsimp only at w1
  split at w1
  · rename_i ds hd
    have hh := aok_datas hv hd
    refine ⟨line_le (by rw [dpA_len hh]; exact w1.1), fun p hp => ?_⟩
    have fo := (so.step s1).fo
    exact ok p vs _ F1 ds (s1.trans (fo.lay hp)) (fo.fnone hp) (s1.dom p hp) upd_same hh w1.2
  · exact w1.elim
theorem lf_le {K : PySem.W.Frag} (σ : List (Option V)) (H : Hp) (Q : VK) (h : LE K W we σ H Q) : LF K W we σ H Q := by
  obtain ⟨B, F, env, Qd, Xd, so, w, ok, okx⟩ := h
  refine ⟨B, F, env, Qd, Xd, so, w, fun a vs H' F' ds s hf ha hh hd q => ?_, okx⟩
  have ef : Ex F' (upd F' a (.lst vs)) := Evl.Ex.new hf
  refine ok (.ref a) H' (upd F' a (.lst vs)) (.list ds) ⟨fun b x h => ?_, s.f0.trans ef, fun b x h => ?_, s.keep, s.dom, fun p l e => ?_⟩ (.lst upd_same (dpmA ef ds vs hd)) q
  · by_cases e : b = a
    · subst e; rw [upd_same] at h; rw [hh]; exact h
    · rw [upd_ne e] at h; exact s.fh b x h
  · by_cases e : b = a
    · subst e; exact .inr ha
    · rw [upd_ne e] at h; exact s.fresh b x h
  · obtain ⟨⟨f1, f2, ne, q⟩, m⟩ := s.pool p l e
    obtain ⟨⟨_, _, _, a0, b0, c0, n0, xs0, g1, g2⟩, _⟩ := so.fo.pool p l e
    refine ⟨⟨?_, ?_, ne, q⟩, m⟩
    · rw [upd_ne (ne_of_none g1 ha)]; exact f1
    · rw [upd_ne (ne_of_none g2 ha)]; exact f2
theorem PF.pd (h : PF X W e we) : PD X W e we := pe_imp h lf_le
/-! tests -/
def wTst (w : WE) : WT := fun env Q X => w env (fun d => match d with
  | .bool b => Q b
  | _ => False) X
theorem ptd_val (h : PD X W e we) (he : ∀ whole, isTrue e X.env whole = (do let v ← whole; standAt e.pos; holding [v] (truthy v)) := by intro _; rfl) : PTd X W e (wTst we) := by
  refine pt_imp (pt_val h he) ?_
  rintro σ H Q ⟨B, F, env, Qd, Xd, so, w, ok, okx⟩
  refine ⟨B, F, env, _, Xd, so, w, fun x H1 F1 dx s1 hx w1 => ?_, okx⟩
  try dsimp only at w1
  split at w1
  · rename_i b
    exact ⟨b, dp_bl hx, ok b H1 F1 s1 w1⟩
  · exact w1.elim
theorem two_tst {K : PySem.W.Frag} {r : R2} {f : PyData → PyData → DQ → Prop} (hr : OpD K r f) (σ : List (Option V)) (H : Hp) (Q : Bool → Hp → Prop) (h : LT K W (wTst (wOp f wa wb)) σ H Q) : tTest (tOp r (LE K W wa) (LE K W wb)) σ H Q := by
  obtain ⟨B, F, env, Qd, Xd, so, w, ok, okx⟩ := h
  refine two_op hr σ H _ ⟨B, F, env, _, Xd, so, w, fun x H1 F1 dx s1 hx w1 => ?_, okx⟩
  try dsimp only at w1
  split at w1
  · rename_i b
    exact ⟨b, dp_bl hx, ok b H1 F1 s1 w1⟩
  · exact w1.elim
theorem ptd_cmp {op : CmpOp} {r : R2} {f : PyData → PyData → DQ → Prop} (ho : OpR X (compareOp op) r) (hr : OpD X.K r f) (ha : PD X W a wa) (hb : PD X W b wb) (hm : behindInMarks op b = false) : PTd X W (.Compare a [op] [b] pos) (wTst (wOp f wa wb)) :=
  pt_imp (pt_cmpR ho ha hb hm) (two_tst hr)
def wNot (w : WT) : WT := fun env Q X => w env (fun b => Q (!b)) X
def wAnd (a b : WT) : WT := fun env Q X => a env (fun x => (x = true → b env Q X) ∧ (x = false → Q false)) X
def wOr (a b : WT) : WT := fun env Q X => a env (fun x => (x = true → Q true) ∧ (x = false → b env Q X)) X
variable {ua ub : WT} {rest : List Expr}
theorem ptd_not (h : PTd X W a ua) : PTd X W (.UnaryOp .Not a pos) (wNot ua) := by
  refine pt_imp (pt_not h) ?_
  rintro σ H Q ⟨B, F, env, Qd, Xd, so, w, ok, okx⟩
  exact ⟨B, F, env, _, Xd, so, w, fun b H1 F1 s1 w1 => ok (!b) H1 F1 s1 w1, okx⟩
theorem pwd_and1 (h : PTd X W a ua) : PWd X W (.BoolOp .And [a] pos) ua := pw_and1 h
theorem pwd_or1 (h : PTd X W a ua) : PWd X W (.BoolOp .Or [a] pos) ua := pw_or1 h
theorem lt_and {K : PySem.W.Frag} (σ : List (Option V)) (H : Hp) (Q : Bool → Hp → Prop) (h : LT K W (wAnd ua ub) σ H Q) : tAnd (LT K W ua) (LT K W ub) σ H Q := by
  obtain ⟨B, F, env, Qd, Xd, so, w, ok, okx⟩ := h
  refine ⟨B, F, env, _, Xd, so, w, fun b H1 F1 s1 w1 => ?_, okx⟩
  cases b with
  | true =>
    refine iteT ?_
    exact ⟨B, F1, env, Qd, Xd, so.step s1, w1.1 rfl, fun b H2 F2 s2 w2 => ok b H2 F2 (s1.trans s2) w2, okx.step s1⟩
  | false => exact iteF (ok false H1 F1 s1 (w1.2 rfl))
theorem lt_or {K : PySem.W.Frag} (σ : List (Option V)) (H : Hp) (Q : Bool → Hp → Prop) (h : LT K W (wOr ua ub) σ H Q) : tOr (LT K W ua) (LT K W ub) σ H Q := by
  obtain ⟨B, F, env, Qd, Xd, so, w, ok, okx⟩ := h
  refine ⟨B, F, env, _, Xd, so, w, fun b H1 F1 s1 w1 => ?_, okx⟩
  cases b with
  | true => exact iteT (ok true H1 F1 s1 (w1.1 rfl))
  | false =>
    refine iteF ?_
    exact ⟨B, F1, env, Qd, Xd, so.step s1, w1.2 rfl, fun b H2 F2 s2 w2 => ok b H2 F2 (s1.trans s2) w2, okx.step s1⟩
theorem pwd_and (ha : PTd X W a ua) (hb : PWd X W (.BoolOp .And (b :: rest) pos) ub) : PWd X W (.BoolOp .And (a :: b :: rest) pos) (wAnd ua ub) := pw_imp (pw_and ha hb) lt_and
theorem pwd_or (ha : PTd X W a ua) (hb : PWd X W (.BoolOp .Or (b :: rest) pos) ub) : PWd X W (.BoolOp .Or (a :: b :: rest) pos) (wOr ua ub) := pw_imp (pw_or ha hb) lt_or
theorem PWd.pt (h : PWd X W e ua) : PTd X W e ua := L2.PW.pt h
/-! and, or, not as values, of bools -/
def vAnd (a b : WE) : WE := fun env Q X => a env (fun d => match d with
  | .bool x => (x = true → b env (fun d => match d with | .bool _ => Q d | _ => False) X) ∧ (x = false → Q (.bool false))
  | _ => False) X
def vOr (a b : WE) : WE := fun env Q X => a env (fun d => match d with
  | .bool x => (x = true → Q (.bool true)) ∧ (x = false → b env (fun d => match d with | .bool _ => Q d | _ => False) X)
  | _ => False) X
def vNot (a : WE) : WE := fun env Q X => a env (fun d => match d with
  | .bool x => Q (.bool (!x))
  | _ => False) X
theorem pd_one {op} (h : PD X W a wa) : PD X W (.BoolOp op [a] pos) wa := pe_one h
theorem pd_and (ha : PD X W a wa) (hb : PD X W (.BoolOp .And (b :: rest) pos) wb) : PD X W (.BoolOp .And (a :: b :: rest) pos) (vAnd wa wb) := by
  refine pe_imp (pe_and ha hb) ?_
  rintro σ H Q ⟨B, F, env, Qd, Xd, so, w, ok, okx⟩
  refine ⟨B, F, env, _, Xd, so, w, fun x H1 F1 dx s1 hx w1 => ?_, okx⟩
  try dsimp only at w1
  split at w1
  · rename_i c
    refine ⟨c, dp_bl hx, ?_⟩
    cases c with
    | true =>
      refine iteT ?_
      refine ⟨B, F1, env, _, Xd, so.step s1, w1.1 rfl, fun y H2 F2 dy s2 hy w2 => ?_, okx.step s1⟩
      try dsimp only at w2
      split at w2
      · exact ok y H2 F2 _ (s1.trans s2) hy w2
      · exact w2.elim
    | false => exact iteF (ok (.bl false) H1 F1 (.bool false) s1 (.bl false) (w1.2 rfl))
  · exact w1.elim
theorem pd_or (ha : PD X W a wa) (hb : PD X W (.BoolOp .Or (b :: rest) pos) wb) : PD X W (.BoolOp .Or (a :: b :: rest) pos) (vOr wa wb) := by
  refine pe_imp (pe_or ha hb) ?_
  rintro σ H Q ⟨B, F, env, Qd, Xd, so, w, ok, okx⟩
  refine ⟨B, F, env, _, Xd, so, w, fun x H1 F1 dx s1 hx w1 => ?_, okx⟩
  try dsimp only at w1
  split at w1
  · rename_i c
    refine ⟨c, dp_bl hx, ?_⟩
    cases c with
    | true => exact iteT (ok (.bl true) H1 F1 (.bool true) s1 (.bl true) (w1.1 rfl))
    | false =>
      refine iteF ?_
      refine ⟨B, F1, env, _, Xd, so.step s1, w1.2 rfl, fun y H2 F2 dy s2 hy w2 => ?_, okx.step s1⟩
      try dsimp only at w2
      split at w2
      · exact ok y H2 F2 _ (s1.trans s2) hy w2
      · exact w2.elim
  · exact w1.elim
theorem pd_not (ha : PD X W a wa) : PD X W (.UnaryOp .Not a pos) (vNot wa) := by
  refine pe_imp (pe_not ha) ?_
  rintro σ H Q ⟨B, F, env, Qd, Xd, so, w, ok, okx⟩
  refine ⟨B, F, env, _, Xd, so, w, fun x H1 F1 dx s1 hx w1 => ?_, okx⟩
  try dsimp only at w1
  split at w1
  · rename_i c
    exact ⟨c, dp_bl hx, ok (.bl (!c)) H1 F1 (.bool (!c)) s1 (.bl _) w1⟩
  · exact w1.elim
def wIf (c : WT) (a b : WE) : WE := fun env Q X => c env (fun x => (x = true → a env Q X) ∧ (x = false → b env Q X)) X
theorem pd_if {c : Expr} (hc : PTd X W c ua) (ha : PD X W a wa) (hb : PD X W b wb) : PD X W (.IfExp c a b pos) (wIf ua wa wb) := by
  refine pe_imp (pe_ifExp hc ha hb) ?_
  rintro σ H Q ⟨B, F, env, Qd, Xd, so, w, ok, okx⟩
  refine ⟨B, F, env, _, Xd, so, w, fun b H1 F1 s1 w1 => ?_, okx⟩
  cases b with
  | true => exact iteT ⟨B, F1, env, Qd, Xd, so.step s1, w1.1 rfl, ok.step s1, okx.step s1⟩
  | false => exact iteF ⟨B, F1, env, Qd, Xd, so.step s1, w1.2 rfl, ok.step s1, okx.step s1⟩
end

/-! ### operations by data -/
def fInt (C : Int → Int → Prop) (g : Int → Int → PyData) : PyData → PyData → DQ → Prop := fun x y Q => match x, y with
  | .int i, .int j => C i j ∧ Q (g i j)
  | _, _ => False
theorem opd_int {K : PySem.W.Frag} {C : Int → Int → Prop} {g : Int → Int → V} {gd : Int → Int → PyData} (hg : ∀ i j H, Hs K H (g i j) (gd i j)) : OpD K (rI C g) (fInt C gd) := by
  intro B H F x y dx dy Qd Q fo hx hy w ok
  unfold fInt at w
  split at w
  · rename_i i j
    exact ⟨i, j, dp_int hx, dp_int hy, w.1, ok _ H F _ fo.refl (hg i j F) w.2⟩
  · exact w.elim
def fInt0 (g : Int → Int → PyData) : PyData → PyData → DQ → Prop := fun x y Q => match x, y with
  | .int i, .int j => Q (g i j)
  | _, _ => False
theorem opd_int0 {K : PySem.W.Frag} {g : Int → Int → V} {gd : Int → Int → PyData} (hg : ∀ i j H, Hs K H (g i j) (gd i j)) : OpD K (rI0 g) (fInt0 gd) := by
  intro B H F x y dx dy Qd Q fo hx hy w ok
  unfold fInt0 at w
  split at w
  · rename_i i j
    exact ⟨i, j, dp_int hx, dp_int hy, ok _ H F _ fo.refl (hg i j F) w⟩
  · exact w.elim
def fSub := fInt0 fun i j => .int (i - j)
theorem opd_sub {K : PySem.W.Frag} : OpD K (rI0 fun i j => .int (i - j)) fSub := opd_int0 fun i j H => .int _
def fMul := fInt (fun i j => i.natAbs.log2 + j.natAbs.log2 < 1000000) fun i j => .int (i * j)
theorem opd_mul {K : PySem.W.Frag} : OpD K (rI CMulW fun i j => .int (i * j)) fMul := opd_int fun i j H => .int _
/-- one factor small -/
def fMulS := fInt (fun i j => (-(2 ^ 64) < i ∧ i < 2 ^ 64) ∨ (-(2 ^ 64) < j ∧ j < 2 ^ 64)) fun i j => .int (i * j)
theorem opd_mulS {K : PySem.W.Frag} : OpD K (rI CMul fun i j => .int (i * j)) fMulS := opd_int fun i j H => .int _
def fMod := fInt (fun _ j => 0 < j) fun i j => .int (i % j)
theorem opd_mod {K : PySem.W.Frag} : OpD K (rI (fun _ j => 0 < j) fun i j => .int (i % j)) fMod := opd_int fun i j H => .int _
def CDivX (_ j : Int) : Prop := j ≠ 0 ∧ j.natAbs.log2 < 9000
theorem op_fdivX {X : Cx} : OpR X (binaryOp .FloorDiv) (rI CDivX fun i j => .int (i.fdiv j)) := opI fun i j _ _ _ _ _ hc q => PyProof.Rows.floordiv_int hc.1 q (.inl (PyProof.noPylong_of_log2 hc.2))
def fDiv := fInt CDivX fun i j => .int (i.fdiv j)
theorem opd_div {K : PySem.W.Frag} : OpD K (rI CDivX fun i j => .int (i.fdiv j)) fDiv := opd_int fun i j H => .int _
def fPow := fInt (fun i j => 0 ≤ j ∧ j ≤ 1000000 ∧ i.natAbs < 2 ^ 64) fun i j => .int (i ^ j.toNat)
theorem opd_pow {K : PySem.W.Frag} : OpD K (rI CPow fun i j => .int (i ^ j.toNat)) fPow := opd_int fun i j H => .int _
def fLt := fInt0 fun i j => .bool (decide (i < j))
def fLe := fInt0 fun i j => .bool (decide (i ≤ j))
def fGt := fInt0 fun i j => .bool (decide (j < i))
def fGe := fInt0 fun i j => .bool (decide (j ≤ i))
theorem opd_lt {K : PySem.W.Frag} : OpD K (rI0 fun i j => .bl (decide (i < j))) fLt := opd_int0 fun i j H => .bl _
theorem opd_le {K : PySem.W.Frag} : OpD K (rI0 fun i j => .bl (decide (i ≤ j))) fLe := opd_int0 fun i j H => .bl _
theorem opd_gt {K : PySem.W.Frag} : OpD K (rI0 fun i j => .bl (decide (j < i))) fGt := opd_int0 fun i j H => .bl _
theorem opd_ge {K : PySem.W.Frag} : OpD K (rI0 fun i j => .bl (decide (j ≤ i))) fGe := opd_int0 fun i j H => .bl _
def fEq : PyData → PyData → DQ → Prop := fun x y Q => SeqAt.shaped x = true ∧ SeqAt.shaped y = true ∧ Q (.bool (PyData.eqv x y))
def fNe : PyData → PyData → DQ → Prop := fun x y Q => SeqAt.shaped x = true ∧ SeqAt.shaped y = true ∧ Q (.bool (!PyData.eqv x y))
theorem opd_eq {K : PySem.W.Frag} : OpD K (rEqD K) fEq := fun B H F x y dx dy Qd Q fo hx hy w ok =>
  ⟨dx, dy, hs_dp dx x (dpm fo.fh dx x hx), hs_dp dy y (dpm fo.fh dy y hy), w.1, w.2.1, ok _ H F _ fo.refl (.bl _) w.2.2⟩
theorem opd_ne {K : PySem.W.Frag} : OpD K (rNeD K) fNe := fun B H F x y dx dy Qd Q fo hx hy w ok =>
  ⟨dx, dy, hs_dp dx x (dpm fo.fh dx x hx), hs_dp dy y (dpm fo.fh dy y hy), w.1, w.2.1, ok _ H F _ fo.refl (.bl _) w.2.2⟩
def fNeg : PyData → DQ → Prop := fun x Q => match x with
  | .int i => Q (.int (-i))
  | _ => False
theorem und_neg {K : PySem.W.Frag} : UnD K (rU fun i => .int (-i)) fNeg := by
  intro B H F x dx Qd Q fo hx w ok
  unfold fNeg at w
  split at w
  · rename_i i
    exact ⟨i, dp_int hx, ok _ H F _ fo.refl (.int _) w⟩
  · exact w.elim
/-- xs[i], of lists and tuples -/
def fIx : PyData → PyData → DQ → Prop := fun x y Q => match x, y with
  | .list ds, .int i => ∃ d, atI ds i = some d ∧ Q d
  | .tuple ds, .int i => ∃ d, atI ds i = some d ∧ Q d
  | .str z, .int i => ∃ c, z.length ≤ 16777216 ∧ atI z.cps.toList i = some c ∧ Q (.str ⟨#[c]⟩)
  | _, _ => False
theorem atI_hs {K : PySem.W.Frag} {F : Hp} {vs : List V} {ds : List PyData} {i : Int} {d : PyData} (h : HsA K F vs ds) (e : atI ds i = some d) : ∃ v, atI vs i = some v ∧ Hs K F v d := by
  unfold atI at e ⊢
  rw [dpA_len h]
  cases q : ixN ds.length i with
  | none => rw [q] at e; cases e
  | some j =>
    rw [q] at e
    obtain ⟨v, hv, hd⟩ := dpA_of h e
    exact ⟨v, hv, hd⟩
theorem opd_ix {K : PySem.W.Frag} : OpD K (rIx K) fIx := by
  intro B H F x y dx dy Qd Q fo hx hy w ok
  unfold fIx at w
  split at w
  · rename_i ds i
    obtain ⟨d, e, w⟩ := w
    cases hx with
    | @lst a xs _ hl ha =>
      obtain ⟨v, hv, hd⟩ := atI_hs ha e
      exact .inl ⟨a, xs, i, v, rfl, dp_int hy, Evl.sq_of (fo.fh _ _ hl), hv, ok v H F d fo.refl hd w⟩
  · rename_i ds i
    obtain ⟨d, e, w⟩ := w
    cases hx with
    | @tup a xs _ hl ha =>
      obtain ⟨v, hv, hd⟩ := atI_hs ha e
      exact .inr (.inl ⟨a, xs, i, v, rfl, dp_int hy, Evl.ex_t fo.fh hl, hv, ok v H F d fo.refl hd w⟩)
  · rename_i z i
    obtain ⟨c, hz, e, w⟩ := w
    exact .inr (.inr ⟨z, i, c, dp_str hx, dp_int hy, line_le hz, e, ok _ H F _ fo.refl (.str _) w⟩)
  · exact w.elim
/-- + of ints, texts, lists, tuples -/
def fAdd : PyData → PyData → DQ → Prop := fun x y Q => match x, y with
  | .int i, .int j => Q (.int (i + j))
  | .list xs, .list ys => xs.length + ys.length ≤ 16777216 ∧ Q (.list (xs ++ ys))
  | .tuple xs, .tuple ys => xs.length + ys.length ≤ 16777216 ∧ Q (.tuple (xs ++ ys))
  | _, _ => False
theorem opr_or {X : Cx} {f : Value → Value → Sem Value} {r r' : R2} (h : OpR X f r) (h' : OpR X f r') : OpR X f (fun x y H Q => r x y H Q ∨ r' x y H Q) := by
  intro pins s σ H x y v u Q I rx ry q
  rcases q with q | q
  · exact h pins s σ H x y v u Q I rx ry q
  · exact h' pins s σ H x y v u Q I rx ry q
def rAddA (K : PySem.W.Frag) : R2 := fun x y H Q => (rI0 fun i j => .int (i + j)) x y H Q ∨ (rCat x y H Q ∨ rCatA K x y H Q)
theorem op_addA {X : Cx} : OpR X (binaryOp .Add) (rAddA X.K) := opr_or op_add (opr_or op_cat op_catA)
theorem opd_add {K : PySem.W.Frag} : OpD K (rAddA K) fAdd := by
  intro B H F x y dx dy Qd Q fo hx hy w ok
  unfold fAdd at w
  split at w
  · rename_i i j
    exact .inl ⟨i, j, dp_int hx, dp_int hy, ok _ H F _ fo.refl (.int _) w⟩
  · rename_i xs ys
    cases hx with
    | @lst a us _ hl ha =>
      cases hy with
      | @lst b ws _ hl2 ha2 =>
        refine .inr (.inl ⟨a, b, us, ws, rfl, rfl, fo.fh _ _ hl, fo.fh _ _ hl2, line_le (by rw [dpA_len ha, dpA_len ha2]; exact w.1), fun p hp => ?_⟩)
        have ef := Evl.Ex.new (o := .lst (us ++ ws)) (fo.fnone hp)
        exact ok (.ref p) _ _ _ (fo.alloc hp) (.lst upd_same (dpmA ef _ _ (dpA_app ha ha2))) w.2
  · rename_i xs ys
    cases hx with
    | @tup a us _ hl ha =>
      cases hy with
      | @tup b ws _ hl2 ha2 =>
        refine .inr (.inr ⟨a, b, us, ws, rfl, rfl, Evl.ex_t fo.fh hl, Evl.ex_t fo.fh hl2, line_le (by rw [dpA_len ha, dpA_len ha2]; exact w.1), fun e => ?_, fun _ e => ?_, fun _ _ p hp => ?_⟩)
        · subst e
          cases ha
          exact ok (.ref b) H F _ fo.refl (.tup hl2 ha2) w.2
        · subst e
          cases ha2
          exact ok (.ref a) H F _ fo.refl (.tup hl ha) (by simpa using w.2)
        · have ef := Evl.Ex.new (o := .tup (us ++ ws)) (fo.fnone hp)
          exact ok (.ref p) _ _ _ (fo.alloc hp) (.tup (Evl.st_of upd_same) (dpmA ef _ _ (dpA_app ha ha2))) w.2
  · exact w.elim
end Hw
-- HwC
set_option Elab.async false
set_option linter.all false
set_option maxRecDepth 100000
set_option maxHeartbeats 2000000
namespace Hw
open PySem L2
/-! ### slots: cells, more slots, wiped slots -/
section
variable {K : PySem.W.Frag} {B : Bs} {H F H1 F1 : Hp} {σ : List (Option V)} {env : List Sl}
/-- a list of one's own is changed -/
theorem SO.setC (o : SO K B σ H F env) {i : Nat} {xs : List PyData} {a : Addr} (hi : env[i]? = some (.cell xs)) (ha : σ[i]? = some (some (.ref a))) {vs : List V} {ds : List PyData} (hv : HsA K F vs ds) :
    SO K B σ (upd H a (.lst vs)) F (env.set i (.cell ds)) := by
  obtain ⟨a', ws, e, hf, h0, hh, hd, hp⟩ := o.slots i _ hi
  rw [ha] at e
  cases e
  refine ⟨⟨fun b x h => ?_, o.fo.f0, o.fo.fresh, fun b x h hm => ?_, fun b h => ?_, fun q l e => ?_⟩, by rw [List.length_set]; exact o.len, fun j s hs => ?_, fun j k ys zs ad h1 h2 h3 h4 => ?_⟩
  · have nb : b ≠ a := ne_of_none h hf
    rw [upd_ne nb]; exact o.fo.fh b x h
  · have nb : b ≠ a := ne_of_none h h0
    rw [upd_ne nb]; exact o.fo.keep b x h hm
  · by_cases nb : b = a
    · subst nb; rw [upd_same] at h; cases h
    · rw [upd_ne nb] at h; exact o.fo.dom b h
  · obtain ⟨⟨f1, f2, ne, a1, b1, c1, n1, xs1, g1, g2⟩, m⟩ := o.fo.pool q l e
    have z := hp q l e
    exact ⟨⟨f1, f2, ne, a1, b1, c1, n1, xs1, by rw [upd_ne (Ne.symm z.1)]; exact g1, by rw [upd_ne (Ne.symm z.2)]; exact g2⟩, m⟩
  · rw [getset] at hs
    by_cases ej : i = j
    · subst ej
      rw [if_pos rfl] at hs
      split at hs
      · cases hs
        exact ⟨a, vs, ha, hf, h0, upd_same, hv, hp⟩
      · cases hs
    · rw [if_neg ej] at hs
      have h := o.slots j s hs
      cases s with
      | un => exact h
      | val d => exact h
      | pool => exact h
      | exc a3 c dd xd =>
        obtain ⟨e, ec, d, fs, ed, hd', hf', ha'⟩ := h
        refine ⟨e, ec, d, fs, ed, ?_, hf', ha'⟩
        rw [upd_ne]
        · exact hd'
        · intro z
          subst z
          rw [hh] at hd'; cases hd'
      | cell ys =>
        obtain ⟨a2, vs2, e2, hf2, h02, hh2, hd2, hp2⟩ := h
        have n2 : a2 ≠ a := by
          intro z
          subst z
          exact ej (o.apart i j xs ys a2 hi hs ha e2)
        exact ⟨a2, vs2, e2, hf2, h02, by rw [upd_ne n2]; exact hh2, hd2, hp2⟩
  · rw [getset] at h1 h2
    by_cases ea : i = j
    · by_cases eb : i = k
      · rw [← ea, ← eb]
      · rw [if_neg eb] at h2
        subst ea
        exact o.apart i k xs zs ad hi h2 h3 h4
    · rw [if_neg ea] at h1
      by_cases eb : i = k
      · subst eb
        exact o.apart j i ys xs ad h1 hi h3 h4
      · rw [if_neg eb] at h2
        exact o.apart j k ys zs ad h1 h2 h3 h4
theorem SO.ext (o : SO K B σ H F env) {a : Addr} {vs : List V} {ds : List PyData} (hf : F a = none) (h0 : B.H0 a = none) (hh : H a = some (.lst vs)) (hd : HsA K F vs ds)
    (hp : ∀ p l, B.pl = some (p, l) → a ≠ p ∧ a ≠ l) (hn : ∀ (j : Nat) (xs : List PyData), env[j]? = some (.cell xs) → σ[j]? = some (some (.ref a)) → False) : SO K B (σ ++ [some (.ref a)]) H F (env ++ [.cell ds]) := by
  have l := o.len
  refine ⟨o.fo, by simp [l], fun j s hs => ?_, fun j k xs ys ad h1 h2 h3 h4 => ?_⟩
  · by_cases hj : j < env.length
    · rw [List.getElem?_append_left hj] at hs
      rw [List.getElem?_append_left (by omega)]
      exact o.slots j s hs
    · have e : j = env.length := by
        have := (List.getElem?_eq_some_iff.mp hs).1
        simp at this
        omega
      subst e
      rw [List.getElem?_append_right (Nat.le_refl _)] at hs
      rw [List.getElem?_append_right (by omega)]
      simp at hs
      subst hs
      exact ⟨a, vs, by simp [l], hf, h0, hh, hd, hp⟩
  · have cs : ∀ {j : Nat} {xs : List PyData}, (env ++ [Sl.cell ds])[j]? = some (.cell xs) → (σ ++ [some (V.ref a)])[j]? = some (some (.ref ad)) → (env[j]? = some (.cell xs) ∧ σ[j]? = some (some (.ref ad))) ∨ (j = env.length ∧ ad = a) := fun {j xs} h1 h3 => by
      by_cases hj : j < env.length
      · rw [List.getElem?_append_left hj] at h1
        rw [List.getElem?_append_left (by omega)] at h3
        exact .inl ⟨h1, h3⟩
      · have e : j = env.length := by
          have := (List.getElem?_eq_some_iff.mp h1).1
          simp at this
          omega
        subst e
        rw [List.getElem?_append_right (by omega)] at h3
        simp [l] at h3
        exact .inr ⟨rfl, h3.symm⟩
    rcases cs h1 h3 with ⟨g1, g3⟩ | ⟨e1, e3⟩
    · rcases cs h2 h4 with ⟨g2, g4⟩ | ⟨e2, e4⟩
      · exact o.apart j k xs ys ad g1 g2 g3 g4
      · subst e4
        exact (hn j xs g1 g3).elim
    · rcases cs h2 h4 with ⟨g2, g4⟩ | ⟨e2, e4⟩
      · subst e3
        exact (hn k ys g2 g4).elim
      · rw [e1, e2]
theorem SO.unext {x : Option V} {s : Sl} (o : SO K B (σ ++ [x]) H F (env ++ [s])) : SO K B σ H F env := by
  have l : env.length = σ.length := by have := o.len; simp at this; exact this
  refine ⟨o.fo, l, fun j t hs => ?_, fun j k xs ys ad h1 h2 h3 h4 => ?_⟩
  · have hj := (List.getElem?_eq_some_iff.mp hs).1
    have h := o.slots j t (by rw [List.getElem?_append_left hj]; exact hs)
    rw [List.getElem?_append_left (by omega)] at h
    exact h
  · have hj := (List.getElem?_eq_some_iff.mp h1).1
    have hk := (List.getElem?_eq_some_iff.mp h2).1
    exact o.apart j k xs ys ad (by rw [List.getElem?_append_left hj]; exact h1) (by rw [List.getElem?_append_left hk]; exact h2) (by rw [List.getElem?_append_left (by omega)]; exact h3) (by rw [List.getElem?_append_left (by omega)]; exact h4)
end
def wipeE (env : List Sl) : List Nat → List Sl
  | [] => env
  | v :: vs => (wipeE env vs).set v .un
theorem SO.wipe {K : PySem.W.Frag} {B : Bs} {H F : Hp} {σ : List (Option V)} {env : List Sl} (o : SO K B σ H F env) : ∀ vs : List Nat, SO K B (L2.wipe σ vs) H F (wipeE env vs)
  | [] => o
  | v :: vs => (SO.wipe o vs).drop v none
theorem wipe_get (σ : List (Option V)) (i : Nat) : ∀ vs : List Nat, (wipe σ vs)[i]? = if i ∈ vs then (if i < σ.length then some none else none) else σ[i]?
  | [] => by simp [wipe]
  | v :: vs => by
    unfold wipe
    rw [getset, wipe_length, wipe_get σ i vs]
    by_cases h : v = i
    · subst h
      by_cases h2 : v ∈ vs
      · simp [h2]
      · simp [h2]
    · have h' : ¬ i = v := fun e => h e.symm
      by_cases h2 : i ∈ vs
      · simp [h, h', h2]
      · simp [h, h', h2]
theorem wipe_wipe (σ : List (Option V)) (vs : List Nat) : wipe (wipe σ vs) vs = wipe σ vs := by
  apply List.ext_getElem?
  intro i
  rw [wipe_get, wipe_get, wipe_length]
  by_cases h : i ∈ vs
  · simp [h]
  · simp [h]
theorem wipe_set {σ : List (Option V)} {vs : List Nat} {j : Nat} {x : Option V} (h : j ∈ vs) : wipe (σ.set j x) vs = wipe σ vs := by
  apply List.ext_getElem?
  intro i
  rw [wipe_get, wipe_get, List.length_set]
  by_cases hi : i ∈ vs
  · simp [hi]
  · have e : ¬ j = i := fun e => hi (e ▸ h)
    rw [if_neg hi, if_neg hi, getset, if_neg e]
/-- several slots are given values -/
def setsS (σ : List (Option V)) : List Nat → List V → List (Option V)
  | j :: js, v :: vs => setsS (σ.set j (some v)) js vs
  | _, _ => σ
def setsE (env : List Sl) : List Nat → List PyData → List Sl
  | j :: js, d :: ds => setsE (env.set j (.val d)) js ds
  | _, _ => env
theorem SO.sets {K : PySem.W.Frag} {B : Bs} {H F : Hp} : ∀ (js : List Nat) (σ : List (Option V)) (env : List Sl) (vs : List V) (ds : List PyData), SO K B σ H F env → HsA K F vs ds → SO K B (setsS σ js vs) H F (setsE env js ds)
  | [], _, _, _, _, o, h => by cases h <;> exact o
  | j :: js, σ, env, vs, ds, o, h => by
    cases h with
    | nil => exact o
    | cons h1 h2 => exact SO.sets js (σ.set j (some _)) (env.set j (.val _)) _ _ (o.put j h1) h2
theorem wipe_sets {vs : List Nat} : ∀ {js : List Nat} {σ : List (Option V)} {us : List V}, (∀ j ∈ js, j ∈ vs) → wipe (setsS σ js us) vs = wipe σ vs
  | [], _, us, _ => by cases us <;> rfl
  | j :: js, σ, [], _ => rfl
  | j :: js, σ, u :: us, h => by
    show wipe (setsS (σ.set j (some u)) js us) vs = wipe σ vs
    rw [wipe_sets fun k hk => h k (List.mem_cons_of_mem _ hk), wipe_set (h j List.mem_cons_self)]
/-- a target that stores the data wb d in the slots js -/
def Bnd (K : PySem.W.Frag) (g : TG) (js : List Nat) (wb : PyData → Option (List PyData)) : Prop :=
  ∀ (σ : List (Option V)) (H F : Hp) (v : V) (d : PyData) (ds : List PyData) (Q : List (Option V) → Hp → Prop), Ex F H → Hs K F v d → wb d = some ds → (∀ vs, HsA K F vs ds → Q (setsS σ js vs) H) → g v σ H Q
def bName : PyData → Option (List PyData) := fun d => some [d]
def bTup (n : Nat) : PyData → Option (List PyData) := fun d => match d with
  | .tuple ds => if ds.length = n then some ds else none
  | _ => none
theorem bnd_name {K : PySem.W.Frag} {j : Nat} : Bnd K (gName j) [j] bName := fun σ H F v d ds Q _ h e q => by
  unfold bName at e
  cases e
  exact q [v] (.cons h .nil)
def gNs : List Nat → TGs
  | [] => gNil
  | j :: r => gCons (gName j) (gNs r)
theorem gNs_run {H : Hp} : ∀ {js : List Nat} {σ : List (Option V)} {vs : List V} {Q : List (Option V) → Hp → Prop}, vs.length = js.length → Q (setsS σ js vs) H → gNs js vs σ H Q
  | [], σ, [], Q, _, q => ⟨rfl, q⟩
  | j :: js, σ, v :: vs, Q, l, q => ⟨v, vs, rfl, gNs_run (by simpa using l) q⟩
  | [], _, _ :: _, _, l, _ => by simp at l
  | _ :: _, _, [], _, l, _ => by simp at l
theorem bnd_tup {K : PySem.W.Frag} {js : List Nat} {n : Nat} (hn : js.length = n) : Bnd K (gTup K n (gNs js)) js (bTup n) := fun σ H F v d ds Q ex h e q => by
  unfold bTup at e
  split at e
  · split at e
    · rename_i hl
      cases e
      cases h with
      | @tup a xs _ hs ha =>
        have hx : xs.length = n := by rw [dpA_len ha]; exact hl
        exact ⟨a, xs, rfl, Evl.ex_t ex hs, hx, gNs_run (by rw [hx, hn]) (q xs ha)⟩
    · cases e
  · cases e

/-! ### what is walked -/
def Yl (K : PySem.W.Frag) (J : It) (F : Hp) (ds : List PyData) : Prop := ∀ (B : Bs) (H1 F1 : Hp) (i : Nat), FO B H1 F1 → Ex F F1 → i ≤ ds.length →
  (i < ds.length → J.go i H1) ∧ (i = ds.length → J.stop i H1) ∧ ∀ v H2, J.yld i H1 v H2 → i < ds.length → ∃ F2 d, ds[i]? = some d ∧ FO (stp B F1 H1) H2 F2 ∧ Hs K F2 v d
abbrev WI := List Sl → (List PyData → Prop) → XQ → Prop
def LI (K : PySem.W.Frag) (W : WX) (w : WI) : TI := fun σ H R => ∃ B F env Qd Xd, SO K B σ H F env ∧ w env Qd Xd ∧ (∀ J H' F' ds, FO (stp B F H) H' F' → Yl K J F' ds → Qd ds → R J H') ∧ OkX K B F H σ Xd W
def PId (X : Cx) (W : WX) (tg iter : Expr) (w : WI) : Prop := PI X tg iter (LI X.K W w)
theorem pi_imp {X : Cx} {tg e : Expr} {t t' : TI} (h : PI X tg e t) (i : ∀ σ H R, t' σ H R → t σ H R) : PI X tg e t' := ⟨fun pins s σ H R I q => h.run pins s σ H R I (i σ H R q)⟩
theorem yl_list {K : PySem.W.Frag} {F : Hp} {a : Addr} {vs : List V} {ds : List PyData} (h : F a = some (.lst vs)) (hd : HsA K F vs ds) : Yl K (Itl K a) F ds := fun B H1 F1 i fo ex hi => by
  have hq : SqL K H1 a vs := Evl.sq_of (fo.fh _ _ (ex _ _ h))
  have l := dpA_len hd
  refine ⟨fun hlt => ?_, fun e => ⟨vs, hq, by omega⟩, fun v H2 hy hlt => ?_⟩
  · exact ⟨vs, vs[i], hq, List.getElem?_eq_getElem (by omega)⟩
  · obtain ⟨rfl, f⟩ := hy
    obtain ⟨d, e, hv⟩ := dpA_get (dpmA ex _ _ hd) (f vs hq)
    exact ⟨F1, d, e, fo.refl, hv⟩
theorem yl_tup {K : PySem.W.Frag} {F : Hp} {a : Addr} {vs : List V} {ds : List PyData} (h : SqT K F a vs) (hd : HsA K F vs ds) : Yl K (Itt K a) F ds := fun B H1 F1 i fo ex hi => by
  have hq : SqT K H1 a vs := Evl.ex_t fo.fh (Evl.ex_t ex h)
  have l := dpA_len hd
  refine ⟨fun hlt => ?_, fun e => ⟨vs, hq, by omega⟩, fun v H2 hy hlt => ?_⟩
  · exact ⟨vs, vs[i], hq, List.getElem?_eq_getElem (by omega)⟩
  · obtain ⟨rfl, f⟩ := hy
    obtain ⟨d, e, hv⟩ := dpA_get (dpmA ex _ _ hd) (f vs hq)
    exact ⟨F1, d, e, fo.refl, hv⟩
def rgD (lo : Int) (n : Nat) : List PyData := (List.range n).map fun i => .int (lo + (i : Nat))
theorem rgD_len (lo : Int) (n : Nat) : (rgD lo n).length = n := by simp [rgD]
theorem rgD_get {lo : Int} {n i : Nat} (h : i < n) : (rgD lo n)[i]? = some (.int (lo + (i : Nat))) := by simp [rgD, h]
theorem yl_range {K : PySem.W.Frag} {F : Hp} {lo : Int} {n : Nat} : Yl K (Itr lo n) F (rgD lo n) := fun B H1 F1 i fo ex hi => by
  rw [rgD_len] at hi ⊢
  refine ⟨fun h => h, fun e => Nat.le_of_eq e.symm, fun v H2 hy hlt => ?_⟩
  obtain ⟨rfl, rfl⟩ := hy
  exact ⟨F1, _, rgD_get hlt, fo.refl, .int _⟩
def zipD (xs ys : List PyData) : List PyData := (xs.zip ys).map fun p => .tuple [p.1, p.2]
theorem zipD_len (xs ys : List PyData) : (zipD xs ys).length = min xs.length ys.length := by simp [zipD]
theorem yl_zipT {K : PySem.W.Frag} {F : Hp} {a b : Addr} {vs us : List V} {ds es : List PyData} (h : SqT K F a vs) (hd : HsA K F vs ds) (h2 : SqT K F b us) (hd2 : HsA K F us es) : Yl K (RZ.ItzT K a b) F (zipD ds es) := fun B H1 F1 i fo ex hi => by
  have hq : SqT K H1 a vs := Evl.ex_t fo.fh (Evl.ex_t ex h)
  have hq2 : SqT K H1 b us := Evl.ex_t fo.fh (Evl.ex_t ex h2)
  have l := dpA_len hd
  have l2 := dpA_len hd2
  rw [zipD_len] at hi ⊢
  refine ⟨fun hlt => ?_, fun e => ⟨vs, us, hq, hq2, by omega⟩, fun v H2 hy hlt => ?_⟩
  · exact ⟨vs, us, vs[i]'(by omega), us[i]'(by omega), hq, hq2, List.getElem?_eq_getElem (by omega), List.getElem?_eq_getElem (by omega)⟩
  · obtain ⟨T, x, y, rfl, hT, rfl, f, f2⟩ := hy
    obtain ⟨d, e, hv⟩ := dpA_get (dpmA ex _ _ hd) (f vs hq)
    obtain ⟨d2, e2, hv2⟩ := dpA_get (dpmA ex _ _ hd2) (f2 us hq2)
    have ef := Evl.Ex.new (o := .tup [x, y]) (fo.fnone hT)
    refine ⟨upd F1 T (.tup [x, y]), .tuple [d, d2], ?_, fo.alloc hT, .tup (Evl.st_of upd_same) (dpmA ef _ _ (.cons hv (.cons hv2 .nil)))⟩
    simp [zipD, List.getElem?_zip_eq_some, e, e2]
def wSeqI (we : WE) : WI := fun env Q X => we env (fun d => match d with
  | .list ds => Q ds
  | .tuple ds => Q ds
  | _ => False) X
def wRng1 (wa : WE) : WI := fun env Q X => wa env (fun d => match d with
  | .int n => -(2 ^ 62) ≤ n ∧ n < 2 ^ 62 ∧ Q (rgD 0 n.toNat)
  | _ => False) X
def wZip (wa wb : WE) : WI := fun env Q X => wa env (fun d => wb env (fun e => match d, e with
  | .tuple xs, .tuple ys => Q (zipD xs ys)
  | _, _ => False) X) X
section
variable {X : Cx} {W : WX} {tg e e2 : Expr} {we we2 : WE} {pos p : Pos}
theorem pi_seqA {tl : TE} (hl : PE X e tl) : PI X tg e (fun σ H R => tl σ H fun x H1 => (∃ a, x = .ref a ∧ (∃ xs, SqL X.K H1 a xs) ∧ R (Itl X.K a) H1) ∨ ∃ a, x = .ref a ∧ (∃ xs, SqT X.K H1 a xs) ∧ R (Itt X.K a) H1) := by
  refine ⟨fun ps s σ H R I h => thn (hl.run ps s σ H _ I h) fun v s1 ⟨x, H1, I1, r1, q1⟩ => ?_⟩
  have fp : ∀ b ∈ [s1.heap.objs.size], FpOk X ps H1 b := fun b hb => by
    obtain rfl : b = s1.heap.objs.size := by simpa using hb
    exact I1.fpOk (Nat.le_refl _) (I1.hok.fresh (Nat.le_refl _))
  rcases q1 with ⟨a, e, ⟨xs, hq⟩, q⟩ | ⟨a, e, ⟨xs, hq⟩, q⟩
  · subst e; cases r1
    obtain ⟨its, rv, pl, hz⟩ := I1.list hq
    exact wpAny_pyIter_list pl.isList ⟨_, _, _, _, H1, rfl, I1.kept (t' := s1.toks) fun b o e => Heap.get?_push_of_some _ e, turn_list a _, ⟨_, Heap.get?_push_size _ rfl, rfl, rfl⟩, fp, q⟩
  · subst e; cases r1
    obtain ⟨its, rv, pt, hz⟩ := I1.tuple hq
    exact wpAny_pyIter_tuple (show s1.heap.IsTuple a its.toArray from pt) ⟨_, _, _, _, H1, rfl, I1.kept (t' := s1.toks) fun b o e => Heap.get?_push_of_some _ e, turn_tuple a _, ⟨_, Heap.get?_push_size _ rfl, rfl, rfl⟩, fp, q⟩
theorem pid_seq (h : PD X W e we) : PId X W tg e (wSeqI we) := by
  refine pi_imp (pi_seqA h) ?_
  rintro σ H R ⟨B, F, env, Qd, Xd, so, w, ok, okx⟩
  refine ⟨B, F, env, _, Xd, so, w, fun x H1 F1 dx s1 hx w1 => ?_, okx⟩
  try dsimp only at w1
  have fo := (so.step s1).fo
  split at w1
  · cases hx with
    | @lst a xs _ hl ha => exact .inl ⟨a, rfl, ⟨xs, Evl.sq_of (fo.fh _ _ hl)⟩, ok _ H1 F1 _ s1 (yl_list hl ha) w1⟩
  · cases hx with
    | @tup a xs _ hl ha => exact .inr ⟨a, rfl, ⟨xs, Evl.ex_t fo.fh hl⟩, ok _ H1 F1 _ s1 (yl_tup hl ha) w1⟩
  · exact w1.elim
theorem pid_rng1 (hg : Gl X "range") (hm : X.mg "range" = none) (h : PD X W e we) (hs : starEach [e] X.env = [(false, eval e X.env)] := by rfl) : PId X W tg (.Call (.Name "range" p) [e] [] pos) (wRng1 we) := by
  refine pi_imp (pi_range1 hg hm (pa_cons h pa_nil hs) hs) ?_
  rintro σ H R ⟨B, F, env, Qd, Xd, so, w, ok, okx⟩
  refine ⟨B, F, env, _, Xd, so, w, fun x H1 F1 dx s1 hx w1 => ?_, okx⟩
  try dsimp only at w1
  split at w1
  · rename_i n
    refine ⟨n, by rw [dp_int hx], w1.1, w1.2.1, ok _ H1 F1 _ s1 yl_range w1.2.2⟩
  · exact w1.elim
theorem pid_zip {elts : List Expr} {kk : Nat} {tpos : Pos} (hg : Gl X "zip") (hm : X.mg "zip" = none) (h : PD X W e we) (h2 : PD X W e2 we2)
    (hs : starEach [e, e2] X.env = (false, eval e X.env) :: starEach [e2] X.env := by rfl) (hs2 : starEach [e2] X.env = [(false, eval e2 X.env)] := by rfl) (hpl : (backTo pos (starEach [e2] X.env)).any (·.1) = false := by rfl) :
    PId X W (.Tuple elts kk tpos) (.Call (.Name "zip" p) [e, e2] [] pos) (wZip we we2) := by
  refine pi_imp (RZ.pi_zipA hg hm (pa_cons h (pa_cons h2 pa_nil hs2) hs) hs hpl) ?_
  rintro σ H R ⟨B, F, env, Qd, Xd, so, w, ok, okx⟩
  refine ⟨B, F, env, _, Xd, so, w, fun x H1 F1 dx s1 hx w1 => ?_, okx⟩
  refine ⟨B, F1, env, _, Xd, so.step s1, w1, fun y H2 F2 dy s2 hy w2 => ?_, okx.step s1⟩
  try dsimp only at w2
  have fo := ((so.step s1).step s2).fo
  have hx2 := dpm s2.f0 dx x hx
  split at w2
  · cases hx2 with
    | @tup a xs _ hl ha =>
      cases hy with
      | @tup b ys _ hl2 ha2 => exact ⟨a, b, xs, ys, rfl, .inr ⟨Evl.ex_t fo.fh hl, Evl.ex_t fo.fh hl2, ok _ H2 F2 _ (s1.trans s2) (yl_zipT hl ha hl2 ha2) w2⟩⟩
  · exact w2.elim

/-! ### comprehensions -/
abbrev W0 : WX := fun _ _ _ _ => False
def noC1 : Sl → Sl
  | .cell _ => .un
  | s => s
def noC (env : List Sl) : List Sl := env.map noC1
theorem noC_no {env : List Sl} {j : Nat} {xs : List PyData} (h : (noC env)[j]? = some (.cell xs)) : False := by
  unfold noC at h
  rw [List.getElem?_map] at h
  cases e : env[j]? with
  | none => rw [e] at h; cases h
  | some s =>
    rw [e] at h
    cases s <;> simp [noC1] at h
theorem wipe_no {env : List Sl} {j : Nat} {xs : List PyData} (hn : ∀ (j : Nat) (xs : List PyData), env[j]? = some (.cell xs) → False) : ∀ {vs : List Nat}, (wipeE env vs)[j]? = some (.cell xs) → False
  | [], h => hn j xs h
  | v :: vs, h => by
    unfold wipeE at h
    rw [getset] at h
    split at h
    · split at h <;> cases h
    · exact wipe_no hn h
theorem SO.rebase {K : PySem.W.Frag} {B : Bs} {H F : Hp} {σ : List (Option V)} {env : List Sl} (o : SO K B σ H F env) : SO K (stp B F H) σ H F (noC env) where
  fo := o.fo.refl
  len := by rw [noC, List.length_map]; exact o.len
  slots := fun i s hs => by
    unfold noC at hs
    rw [List.getElem?_map] at hs
    cases e : env[i]? with
    | none => rw [e] at hs; cases hs
    | some t =>
      rw [e] at hs
      have z := o.slots i t e
      cases t with
      | un => simp [noC1] at hs; subst hs; exact True.intro
      | cell xs => simp [noC1] at hs; subst hs; exact True.intro
      | val d => simp [noC1] at hs; subst hs; exact z
      | pool => simp [noC1] at hs; subst hs; exact z
      | exc a c dd x => simp [noC1] at hs; subst hs; exact z
  apart := fun i j xs ys a h1 _ _ _ => (noC_no h1).elim
def wLc (wi : WI) (js : List Nat) (wb : PyData → Option (List PyData)) (wt : WT) (we : WE) (vs : List Nat) : WE := fun env Q X => wi env (fun ds => ds.length ≤ 10000000 ∧ ∃ I : Nat → List PyData → Prop, I 0 [] ∧
  (∀ i d acc, ds[i]? = some d → acc.length ≤ i → I i acc → ∃ bs, wb d = some bs ∧
    wt (setsE (wipeE (noC env) vs) js bs) (fun b => (b = true → we (setsE (wipeE (noC env) vs) js bs) (fun x => I (i + 1) (acc ++ [x])) (fun _ => False)) ∧ (b = false → I (i + 1) acc)) (fun _ => False)) ∧
  ∀ acc, acc.length ≤ ds.length → I ds.length acc → Q (.list acc)) X
theorem set_last {α : Type} (l : List α) (x y : α) : (l ++ [x]).set l.length y = l ++ [y] := by simp
theorem lf_lc {K : PySem.W.Frag} {W : WX} {wi : WI} {g : TG} {js : List Nat} {wb : PyData → Option (List PyData)} {wt : WT} {we : WE} {vs : List Nat} (hg : Bnd K g js wb) (hjs : ∀ j ∈ js, j ∈ vs) (σ : List (Option V)) (H : Hp) (Q : VK)
    (h : LF K W (wLc wi js wb wt we vs) σ H Q) : tLc (LI K W wi) g (LT K W0 wt) (LE K W0 we) vs σ H Q := by
  obtain ⟨B, F, env, Qd, Xd, so, w, ok, okx⟩ := h
  refine ⟨B, F, env, _, Xd, so, w, fun J H1 F1 ds s1 yl w1 => ?_, okx⟩
  obtain ⟨hlen, I, I0, Is, Iq⟩ := w1
  intro D hD
  have so1 := so.step s1
  have fD : F1 D = none := so1.fo.fnone hD
  have hp : ∀ p l, B.pl = some (p, l) → D ≠ p ∧ D ≠ l := fun p l e => by
    obtain ⟨⟨_, _, _, a0, b0, c0, n0, xs0, g1, g2⟩, _⟩ := so1.fo.pool p l e
    exact ⟨(ne_of_none g1 hD).symm, (ne_of_none g2 hD).symm⟩
  have sb : SO K (stp B F1 H1) (wipe σ vs) H1 F1 (wipeE (noC env) vs) := so1.rebase.wipe vs
  have s2 : FO (stp (stp B F1 H1) F1 H1) (upd H1 D (.lst [])) F1 := sb.fo.lay hD
  have lw : (wipeE (noC env) vs).length = (wipe σ vs).length := sb.len
  have ncell : ∀ (j : Nat) (xs : List PyData), (wipeE (noC env) vs)[j]? = some (.cell xs) → False := fun j xs => wipe_no fun j xs => noC_no
  have sx : SO K (stp B F1 H1) (wipe σ vs ++ [some (.ref D)]) (upd H1 D (.lst [])) F1 (wipeE (noC env) vs ++ [.cell []]) := (sb.step s2).ext fD hD upd_same .nil hp fun j xs h _ => ncell j xs h
  -- what a state of the walk tells of the new list
  have atD : ∀ {H' F' : Hp} {acc : List PyData}, SO K (stp B F1 H1) (wipe σ vs ++ [some (.ref D)]) H' F' (wipeE (noC env) vs ++ [.cell acc]) → F' D = none ∧ ∃ us, H' D = some (.lst us) ∧ HsA K F' us acc := fun {H' F' acc} so' => by
    obtain ⟨a, us, e, hf, _, hh, hd, _⟩ := so'.slots (wipeE (noC env) vs).length (.cell acc) (by simp)
    have e' : (wipe σ vs ++ [some (V.ref D)])[(wipeE (noC env) vs).length]? = some (some (V.ref D)) := by rw [lw]; simp
    rw [e'] at e
    cases e
    exact ⟨hf, us, hh, hd⟩
  refine ⟨fun i m H' => m = ds.length - i ∧ i ≤ ds.length ∧ ∃ F' acc, SO K (stp B F1 H1) (wipe σ vs ++ [some (.ref D)]) H' F' (wipeE (noC env) vs ++ [.cell acc]) ∧ Ex F1 F' ∧ acc.length ≤ i ∧ I i acc,
    ⟨ds.length, by simp, Nat.zero_le _, F1, [], sx, Evl.Ex.refl _, Nat.le_refl _, I0⟩, ?_⟩
  rintro i m H' ⟨rfl, hi, F', acc, so', ex', la, Ii⟩
  obtain ⟨ygo, ystop, yyld⟩ := yl (stp B F1 H1) H' F' i so'.fo ex' hi
  by_cases hlt : i < ds.length
  · refine .inr ⟨ygo hlt, fun H' => ∃ F' acc, SO K (stp B F1 H1) (wipe σ vs ++ [some (.ref D)]) H' F' (wipeE (noC env) vs ++ [.cell acc]) ∧ Ex F1 F' ∧ acc.length ≤ i + 1 ∧ I (i + 1) acc, fun H2 h2 => ⟨ds.length - (i + 1), by omega, rfl, hlt, h2⟩, fun v H2 hy => ?_⟩
    obtain ⟨F2, d, ed, st, hv⟩ := yyld v H2 hy hlt
    obtain ⟨bs, hb, ht⟩ := Is i d acc ed la Ii
    have so2 := so'.step st
    refine hg (wipe σ vs) H2 F2 v d bs _ so2.fo.fh hv hb fun us hus => ⟨(wipe_sets hjs).trans (wipe_wipe σ vs), ?_⟩
    have so3 := so2.unext.sets js _ _ us bs hus
    refine ⟨stp B F1 H1, F2, _, _, _, so3, ht, fun b H3 F3 st3 hb3 => ?_, fun _ _ _ _ _ _ _ z => z.elim⟩
    cases b with
    | true =>
      refine iteT ?_
      refine ⟨stp B F1 H1, F3, _, _, _, so3.step st3, hb3.1 rfl, fun y H4 F4 dx st4 hy4 hI => ?_, fun _ _ _ _ _ _ _ z => z.elim⟩
      have so5 := (so2.step st3).step st4
      obtain ⟨_, ws, hw, hwa⟩ := atD so5
      refine ⟨ws, hw, Nat.lt_of_lt_of_le (by rw [dpA_len hwa]; omega : ws.length < 16777216) (line_le (Nat.le_refl _)), F4, acc ++ [dx], ?_, ex'.trans (st.f0.trans (st3.f0.trans st4.f0)), by simp; omega, hI⟩
      have so6 := so5.setC (i := (wipeE (noC env) vs).length) (xs := acc) (a := D) (by simp) (by rw [lw]; simp) (vs := ws ++ [y]) (ds := acc ++ [dx]) (dpA_app hwa (.cons hy4 .nil))
      rw [set_last] at so6
      exact so6
    | false =>
      refine iteF ?_
      exact ⟨F3, acc, so2.step st3, ex'.trans (st.f0.trans st3.f0), by omega, hb3.2 rfl⟩
  · obtain rfl : i = ds.length := by omega
    obtain ⟨fD', us, hh, hd⟩ := atD so'
    exact .inl ⟨ystop rfl, ok D us H' F' acc (s1.trans (show FO (stp B F1 H1) H' F' from so'.fo)) fD' (s1.dom D hD) hh hd (Iq acc la Ii)⟩
section
variable {X : Cx} {W : WX} {elt tg iter : Expr} {ifs : List Expr} {scope : Scope} {own : List (Str × Nat)} {pos : Pos} {wi : WI} {g : TG} {js : List Nat} {wb : PyData → Option (List PyData)} {wt : WT} {we : WE}
theorem pf_lc (hc : X.calm = true) (hN : X.N.Nodup) (hi : PId X W tg iter wi) (ok : BlkOk X.N X.env.scope scope own)
    (hg : ∀ (s : Shared) (H : Hp) (C : Addr) (cl : List (Str × Addr)) (fp : List Addr), PG (X.blk s H scope (compEnvC scope cl C X.env) fp) tg g) (hb : Bnd X.K g js wb) (hjs : ∀ j ∈ js, j ∈ own.map (·.2))
    (ht : ∀ (s : Shared) (H : Hp) (C : Addr) (cl : List (Str × Addr)) (fp : List Addr), PTs (X.blk s H scope (compEnvC scope cl C X.env) fp) ifs (LT X.K W0 wt))
    (he : ∀ (s : Shared) (H : Hp) (C : Addr) (cl : List (Str × Addr)) (fp : List Addr), PD (X.blk s H scope (compEnvC scope cl C X.env) fp) W0 elt we) (hs : ∀ x, foldedSetIterable iter X.env x = pure x := by intro _; rfl) :
    PF X W (.ListComp elt [⟨tg, iter, ifs, 0⟩] scope pos) (wLc wi js wb wt we (own.map (·.2))) := pe_imp (pe_lc (te := LE X.K W0 we) hc hN hi ok hg ht he hs) (lf_lc hb hjs)
def wYes : WT := fun _ Q _ => Q true
theorem pts_yes {X : Cx} : PTs X [] (LT X.K W0 wYes) := ⟨fun pins s σ H Q I h => by
  obtain ⟨B, F, env, Qd, Xd, so, w, ok, okx⟩ := h
  exact pts_nil.run pins s σ H Q I (ok true H F so.fo.refl w)⟩
end
end
end Hw
-- HwD
set_option Elab.async false
set_option linter.all false
set_option maxRecDepth 100000
set_option maxHeartbeats 2000000
namespace Hw
open PySem L2
/-! ### statements -/
structure WEnds where
  nx : List Sl → Prop
  rt : DQ
  bk : List Sl → Prop := fun _ => False
  ct : List Sl → Prop := fun _ => False
  xc : List Sl → XQ
abbrev WS := WEnds → List Sl → Prop
structure OkS (K : PySem.W.Frag) (B : Bs) (F : Hp) (W : WX) (Ed : WEnds) (D : Ends) : Prop where
  nx : ∀ σ' H' F' env', SO K B σ' H' F' env' → Ex F F' → Ed.nx env' → D.nx σ' H'
  bk : ∀ σ' H' F' env', SO K B σ' H' F' env' → Ex F F' → Ed.bk env' → D.bk σ' H'
  ct : ∀ σ' H' F' env', SO K B σ' H' F' env' → Ex F F' → Ed.ct env' → D.ct σ' H'
  rt : ∀ v H' F' d, FO B H' F' → Hs K F' v d → Ed.rt d → D.rt v H'
  xc : ∀ c dd σ' H' F' env' x, SO K B σ' H' F' env' → Ex F F' → XIs K F' H' c dd x → Ed.xc env' x → W c dd σ' H'
def LS (K : PySem.W.Frag) (W : WX) (w : WS) : TS := fun D σ H => ∃ B F env Ed, SO K B σ H F env ∧ w Ed env ∧ OkS K B F W Ed D
def PSd (X : Cx) (W : WX) (st : Stmt) (w : WS) : Prop := PS X st (LS X.K W w)
def PSsd (X : Cx) (W : WX) (st : List Stmt) (w : WS) : Prop := PSs X st (LS X.K W w)
theorem OkS.step {K : PySem.W.Frag} {B : Bs} {F F1 : Hp} {W : WX} {Ed : WEnds} {D : Ends} (h : OkS K B F W Ed D) (e : Ex F F1) : OkS K B F1 W Ed D :=
  ⟨fun σ' H' F' env' s x => h.nx σ' H' F' env' s (e.trans x), fun σ' H' F' env' s x => h.bk σ' H' F' env' s (e.trans x), fun σ' H' F' env' s x => h.ct σ' H' F' env' s (e.trans x), h.rt, fun c dd σ' H' F' env' x s ex => h.xc c dd σ' H' F' env' x s (e.trans ex)⟩
theorem OkS.okx {K : PySem.W.Frag} {B : Bs} {F H : Hp} {σ : List (Option V)} {env : List Sl} {W : WX} {Ed : WEnds} {D : Ends} (h : OkS K B F W Ed D) (so : SO K B σ H F env) : OkX K B F H σ (Ed.xc env) W :=
  fun c dd H' F' x s hx q => h.xc c dd σ H' F' env x (so.step s) s.f0 hx q
def wNext : WS := fun Ed env => Ed.nx env
def wSeq (a b : WS) : WS := fun Ed env => a { Ed with nx := b Ed } env
def wAsg (j : Nat) (w : WE) : WS := fun Ed env => w env (fun d => Ed.nx (env.set j (.val d))) (Ed.xc env)
def wAsgB (js : List Nat) (wb : PyData → Option (List PyData)) (w : WE) : WS := fun Ed env => w env (fun d => ∃ bs, wb d = some bs ∧ Ed.nx (setsE env js bs)) (Ed.xc env)
def wAsgC (j : Nat) (w : WE) : WS := fun Ed env => w env (fun d => match d with
  | .list ds => Ed.nx (env.set j (.cell ds))
  | _ => False) (Ed.xc env)
def wRet (w : WE) : WS := fun Ed env => w env Ed.rt (Ed.xc env)
def wRetN : WS := fun Ed _ => Ed.rt .none
def wExp (w : WE) : WS := fun Ed env => w env (fun _ => Ed.nx env) (Ed.xc env)
def wIfS (c : WT) (a b : WS) : WS := fun Ed env => c env (fun x => (x = true → a Ed env) ∧ (x = false → b Ed env)) (Ed.xc env)
def wBrk : WS := fun Ed env => Ed.bk env
def wCnt : WS := fun Ed env => Ed.ct env
/-- the list in slot j is frozen, then .. -/
def wFz (j : Nat) (w : WS) : WS := fun Ed env => match slot env j with
  | .cell ds => w Ed (env.set j (.val (.list ds)))
  | _ => False
def wFor (wi : WI) (js : List Nat) (wb : PyData → Option (List PyData)) (w : WS) : WS := fun Ed env => wi env (fun ds => ∃ I : Nat → List Sl → Prop, I 0 env ∧
  (∀ i d env', ds[i]? = some d → I i env' → ∃ bs, wb d = some bs ∧ w { Ed with nx := I (i + 1), ct := I (i + 1), bk := Ed.nx } (setsE env' js bs)) ∧ ∀ env', I ds.length env' → Ed.nx env') (Ed.xc env)
def wWhile (c : WT) (w : WS) : WS := fun Ed env => ∃ I : Nat → List Sl → Prop, (∃ m, I m env) ∧ ∀ m env', I m env' →
  c env' (fun x => (x = true → w { Ed with nx := fun e => ∃ m', m' < m ∧ I m' e, ct := fun e => ∃ m', m' < m ∧ I m' e, bk := Ed.nx } env') ∧ (x = false → Ed.nx env')) (Ed.xc env')
section
variable {X : Cx} {W : WX} {st : Stmt} {sts : List Stmt} {a b : WS} {e tg : Expr} {we : WE} {pos : Pos}
theorem psd_nil : PSsd X W [] wNext := by
  refine pss_imp pss_nil ?_
  rintro D σ H ⟨B, F, env, Ed, so, w, ok⟩
  exact ok.nx σ H F env so (Evl.Ex.refl _) w
theorem psd_cons (h1 : PSd X W st a) (h2 : PSsd X W sts b) : PSsd X W (st :: sts) (wSeq a b) := by
  refine pss_imp (pss_cons h1 h2) ?_
  rintro D σ H ⟨B, F, env, Ed, so, w, ok⟩
  exact ⟨B, F, env, _, so, w, fun σ' H' F' env' s ex h => ⟨B, F', env', Ed, s, h, ok.step ex⟩, ok.bk, ok.ct, ok.rt, ok.xc⟩
theorem psd_one (h1 : PSd X W st a) : PSsd X W [st] a := pss_one h1
theorem psd_fz (j : Nat) (h : PSsd X W sts a) : PSsd X W sts (wFz j a) := by
  refine pss_imp h ?_
  rintro D σ H ⟨B, F, env, Ed, so, w, ok⟩
  unfold wFz at w
  split at w
  · rename_i ds hs
    obtain ⟨F', ex, so'⟩ := so.freeze (slot_some hs (by simp))
    exact ⟨B, F', _, Ed, so', w, ok.step ex⟩
  · exact w.elim
theorem psd_set {i : Nat} {x : Str} {pos' : Pos} (hN : X.N.Nodup) (hi : X.N[i]? = some x) (hx : Loc X.env.scope x) (he : PD X W e we) (hs : swapsWith e (some (.Name x pos')) pos.line X.env = pure false := by rfl) (hf : X.fn x = true ∨ X.env.scope.names.lookup x = some .local := by first | exact .inl rfl | exact .inr rfl | assumption) :
    PSd X W (.Assign [.Name x pos'] e pos) (wAsg i we) := by
  refine ps_imp (ps_set hN hi hx he hs hf) ?_
  rintro D σ H ⟨B, F, env, Ed, so, w, ok⟩
  exact ⟨B, F, env, _, _, so, w, fun v H1 F1 d s1 hv q => ok.nx _ H1 F1 _ ((so.step s1).put i hv) s1.f0 q, ok.okx so⟩
theorem psd_setC {i : Nat} {x : Str} {pos' : Pos} (hN : X.N.Nodup) (hi : X.N[i]? = some x) (hx : Loc X.env.scope x) (he : PF X W e we) (hs : swapsWith e (some (.Name x pos')) pos.line X.env = pure false := by rfl) (hf : X.fn x = true ∨ X.env.scope.names.lookup x = some .local := by first | exact .inl rfl | exact .inr rfl | assumption) :
    PSd X W (.Assign [.Name x pos'] e pos) (wAsgC i we) := by
  refine ps_imp (ps_set hN hi hx he hs hf) ?_
  rintro D σ H ⟨B, F, env, Ed, so, w, ok⟩
  refine ⟨B, F, env, _, _, so, w, fun a vs H1 F1 ds s1 hf1 ha hh hd q => ?_, ok.okx so⟩
  refine ok.nx _ H1 F1 _ ((so.step s1).putC i hf1 (so.fo.dom a ha) hh hd (fun p l e => ?_) (fun j xs hj hs' => ?_)) s1.f0 q
  · obtain ⟨⟨_, _, _, a0, b0, c0, n0, xs0, g1, g2⟩, _⟩ := so.fo.pool p l e
    exact ⟨(ne_of_none g1 ha).symm, (ne_of_none g2 ha).symm⟩
  · obtain ⟨a', vs', e, _, _, hh', _⟩ := so.slots j _ hj
    rw [hs'] at e
    cases e
    rw [ha] at hh'
    cases hh'
theorem psd_ret (he : PD X W e we) : PSd X W (.Return (some e) pos) (wRet we) := by
  refine ps_imp (ps_ret he) ?_
  rintro D σ H ⟨B, F, env, Ed, so, w, ok⟩
  exact ⟨B, F, env, _, _, so, w, fun v H1 F1 d s1 hv q => ok.rt v H1 F1 d (so.step s1).fo hv q, ok.okx so⟩
theorem psd_retN : PSd X W (.Return none pos) wRetN := by
  refine ps_imp ps_retN ?_
  rintro D σ H ⟨B, F, env, Ed, so, w, ok⟩
  exact ok.rt .non H F .none so.fo .non w
theorem psd_expr (he : PD X W e we) (hs : swapsWith e none pos.line X.env = pure false := by rfl) : PSd X W (.Expr e pos) (wExp we) := by
  refine ps_imp (ps_expr he hs) ?_
  rintro D σ H ⟨B, F, env, Ed, so, w, ok⟩
  exact ⟨B, F, env, _, _, so, w, fun v H1 F1 d s1 hv q => ok.nx _ H1 F1 _ (so.step s1) s1.f0 q, ok.okx so⟩
theorem psd_if {c : Expr} {s1 s2 : List Stmt} {uc : WT} (hc : PTd X W c uc) (ha : PSsd X W s1 a) (hb : PSsd X W s2 b) : PSd X W (.If c s1 s2 pos) (wIfS uc a b) := by
  refine ps_imp (ps_if hc ha hb) ?_
  rintro D σ H ⟨B, F, env, Ed, so, w, ok⟩
  refine ⟨B, F, env, _, _, so, w, fun x H1 F1 s1 q => ?_, ok.okx so⟩
  cases x with
  | true => exact iteT ⟨B, F1, env, Ed, so.step s1, q.1 rfl, ok.step s1.f0⟩
  | false => exact iteF ⟨B, F1, env, Ed, so.step s1, q.2 rfl, ok.step s1.f0⟩
theorem psd_brk : PSd X W (.Break pos) wBrk := by
  refine ps_imp ps_break ?_
  rintro D σ H ⟨B, F, env, Ed, so, w, ok⟩
  exact ok.bk σ H F env so (Evl.Ex.refl _) w
theorem psd_cnt : PSd X W (.Continue pos) wCnt := by
  refine ps_imp ps_continue ?_
  rintro D σ H ⟨B, F, env, Ed, so, w, ok⟩
  exact ok.ct σ H F env so (Evl.Ex.refl _) w
theorem psd_for {iter : Expr} {body : List Stmt} {wi : WI} {g : TG} {js : List Nat} {wb : PyData → Option (List PyData)} (hp : PassesOwn (model X.prog X.w) X.A X.env X.xe) (hc : X.calm = true) (hi : PId X W tg iter wi) (hg : PG X tg g) (hbn : Bnd X.K g js wb) (hb : PSsd X W body a)
    (hs : ∀ x, foldedSetIterable iter X.env x = pure x := by intro _; rfl) : PSd X W (.For tg iter body [] pos) (wFor wi js wb a) := by
  refine ps_imp (ps_for hp hc hi hg hb hs) ?_
  rintro D σ H ⟨B, F, env, Ed, so, w, ok⟩
  refine ⟨B, F, env, _, _, so, w, fun J H1 F1 ds s1 yl w1 => ?_, ok.okx so⟩
  obtain ⟨I, I0, Is, Iq⟩ := w1
  refine ⟨fun i m σ' H' => m = ds.length - i ∧ i ≤ ds.length ∧ ∃ F' env', SO X.K B σ' H' F' env' ∧ Ex F1 F' ∧ I i env', ⟨ds.length, by simp, Nat.zero_le _, F1, env, so.step s1, Evl.Ex.refl _, I0⟩, ?_⟩
  rintro i m σ' H' ⟨rfl, hi, F', env', so', ex', Ii⟩
  obtain ⟨ygo, ystop, yyld⟩ := yl B H' F' i so'.fo ex' hi
  by_cases hlt : i < ds.length
  · refine .inr ⟨ygo hlt, fun σ' H' => ∃ F' env', SO X.K B σ' H' F' env' ∧ Ex F1 F' ∧ I (i + 1) env', fun σ2 H2 h2 => ⟨ds.length - (i + 1), by omega, rfl, hlt, h2⟩, fun v H2 hy => ?_⟩
    obtain ⟨F2, d, ed, st, hv⟩ := yyld v H2 hy hlt
    obtain ⟨bs, hb, ht⟩ := Is i d env' ed Ii
    have so2 := so'.step st
    refine hbn σ' H2 F2 v d bs _ so2.fo.fh hv hb fun us hus => ?_
    have so3 := so2.sets js _ _ us bs hus
    have ex2 : Ex F1 F2 := ex'.trans st.f0
    exact ⟨B, F2, _, _, so3, ht, fun σ3 H3 F3 env3 s3 x3 q => ⟨F3, env3, s3, ex2.trans x3, q⟩, fun σ3 H3 F3 env3 s3 x3 q => ok.nx σ3 H3 F3 env3 s3 ((s1.f0.trans ex2).trans x3) q, fun σ3 H3 F3 env3 s3 x3 q => ⟨F3, env3, s3, ex2.trans x3, q⟩, ok.rt, fun c dd σ3 H3 F3 env3 x s3 x3 => ok.xc c dd σ3 H3 F3 env3 x s3 ((s1.f0.trans ex2).trans x3)⟩
  · obtain rfl : i = ds.length := by omega
    exact .inl ⟨ystop rfl, ok.nx σ' H' F' env' so' (s1.f0.trans ex') (Iq env' Ii)⟩
theorem psd_while {c : Expr} {body : List Stmt} {uc : WT} (hp : PassesOwn (model X.prog X.w) X.A X.env X.xe) (hc : PTd X W c uc) (hb : PSsd X W body a) : PSd X W (.While c body [] pos) (wWhile uc a) := by
  refine ps_imp (ps_while hp hc hb) ?_
  rintro D σ H ⟨B, F, env, Ed, so, ⟨I, ⟨m0, I0⟩, Is⟩, ok⟩
  refine ⟨fun m σ' H' => ∃ F' env', SO X.K B σ' H' F' env' ∧ Ex F F' ∧ I m env', ⟨m0, F, env, so, Evl.Ex.refl _, I0⟩, ?_⟩
  rintro m σ' H' ⟨F', env', so', ex', Im⟩
  have h := Is m env' Im
  refine ⟨B, F', env', _, _, so', h, fun x H1 F1 s1 q => ?_, fun c dd H2 F2 x s hx q => ok.xc c dd σ' H2 F2 env' x (so'.step s) (ex'.trans s.f0) hx q⟩
  have ex1 : Ex F F1 := ex'.trans s1.f0
  cases x with
  | true =>
    refine ⟨fun σ2 H2 => ∃ m', m' < m ∧ ∃ F' env', SO X.K B σ2 H2 F' env' ∧ Ex F F' ∧ I m' env', fun σ2 H2 ⟨m', l, z⟩ => ⟨m', l, z⟩, ?_⟩
    exact ⟨B, F1, env', _, so'.step s1, q.1 rfl, fun σ3 H3 F3 env3 s3 x3 ⟨m', l, z⟩ => ⟨m', l, F3, env3, s3, ex1.trans x3, z⟩, fun σ3 H3 F3 env3 s3 x3 z => ok.nx σ3 H3 F3 env3 s3 (ex1.trans x3) z, fun σ3 H3 F3 env3 s3 x3 ⟨m', l, z⟩ => ⟨m', l, F3, env3, s3, ex1.trans x3, z⟩, ok.rt, fun c dd σ3 H3 F3 env3 x s3 x3 => ok.xc c dd σ3 H3 F3 env3 x s3 (ex1.trans x3)⟩
  | false => exact ok.nx σ' H1 F1 env' (so'.step s1) ex1 (q.2 rfl)
/-- x[i] = e, the list in slot j one's own -/
def wSetI (j : Nat) (wi we : WE) : WS := fun Ed env => match slot env j with
  | .cell ds => we env (fun d => wi env (fun di => match di with
    | .int k => ∃ j', ixN ds.length k = some j' ∧ Ed.nx (env.set j (.cell (ds.set j' d)))
    | _ => False) (Ed.xc env)) (Ed.xc env)
  | _ => False
theorem slot_cell {K : PySem.W.Frag} {B : Bs} {σ : List (Option V)} {H F : Hp} {env : List Sl} (so : SO K B σ H F env) {j : Nat} {ds : List PyData} (h : slot env j = .cell ds) : ∃ a vs, env[j]? = some (.cell ds) ∧ σ[j]? = some (some (.ref a)) ∧ H a = some (.lst vs) ∧ HsA K F vs ds := by
  have hj := slot_some h (by simp)
  obtain ⟨a, vs, e, _, _, hh, hd, _⟩ := so.slots j _ hj
  exact ⟨a, vs, hj, e, hh, hd⟩
theorem psd_setI {j : Nat} {wi : WE} (hb : PS X st (tAsg (LE X.K W we) (gSub (tVar j) (LE X.K W wi) rSetL))) : PSd X W st (wSetI j wi we) := by
  refine ps_imp hb ?_
  rintro D σ H ⟨B, F, env, Ed, so, w, ok⟩
  unfold wSetI at w
  split at w
  · rename_i ds hsl
    refine ⟨B, F, env, _, _, so, w, fun v H1 F1 d s1 hv1 w1 => ?_, ok.okx so⟩
    obtain ⟨a, vs, hj, e, _, _⟩ := slot_cell so hsl
    refine ⟨.ref a, e, B, F1, env, _, _, so.step s1, w1, fun iv H2 F2 di s2 hiv w2 => ?_, (ok.okx so).step s1⟩
    have so2 := (so.step s1).step s2
    obtain ⟨a', vs', hj', e', hh', hd'⟩ := slot_cell so2 hsl
    rw [e] at e'
    cases e'
    try dsimp only at w2
    split at w2
    · rename_i k
      obtain ⟨j', hk, q⟩ := w2
      refine ⟨a, vs', k, j', rfl, dp_int hiv, hh', by rw [dpA_len hd']; exact hk, ?_⟩
      exact ok.nx σ _ F2 _ (so2.setC hj e (dpA_set (dpm s2.f0 d v hv1) hd')) (s1.f0.trans s2.f0) q
    · exact w2.elim
  · exact w.elim
/-- x.append(e), the list in slot j one's own -/
def wApp (j : Nat) (we : WE) : WS := fun Ed env => match slot env j with
  | .cell ds => we env (fun d => ds.length < 16777216 ∧ Ed.nx (env.set j (.cell (ds ++ [d])))) (Ed.xc env)
  | _ => False
theorem psd_app (j : Nat) (hb : PS X st (tDrop (tBM X.K "list" rAppend (tVar j) (tCons (LE X.K W we) tNil)))) : PSd X W st (wApp j we) := by
  refine ps_imp hb ?_
  rintro D σ H ⟨B, F, env, Ed, so, w, ok⟩
  unfold wApp at w
  split at w
  · rename_i ds hsl
    obtain ⟨a, vs, hj, e, hh, hd⟩ := slot_cell so hsl
    refine ⟨.ref a, e, .inl ⟨rfl, vs, Evl.sq_of hh⟩, B, F, env, _, _, so, w, fun v H1 F1 d s1 hv1 w1 => ?_, ok.okx so⟩
    have so1 := so.step s1
    obtain ⟨a', vs', hj', e', hh', hd'⟩ := slot_cell so1 hsl
    rw [e] at e'
    cases e'
    refine ⟨a, vs', v, rfl, rfl, hh', ?_, ?_⟩
    · rw [dpA_len hd', sizeLine_eq]; exact w1.1
    · exact ok.nx σ _ F1 _ (so1.setC hj e (dpA_app hd' (.cons hv1 .nil))) s1.f0 w1.2
  · exact w.elim
/-- a tuple's parts given to several names -/
theorem psd_setB {g : TG} {js : List Nat} {wb : PyData → Option (List PyData)} (hps : PS X st (tAsg (LE X.K W we) g)) (hb : Bnd X.K g js wb) : PSd X W st (wAsgB js wb we) := by
  refine ps_imp hps ?_
  rintro D σ H ⟨B, F, env, Ed, so, w, ok⟩
  refine ⟨B, F, env, _, _, so, w, fun v H1 F1 d s1 hv1 w1 => ?_, ok.okx so⟩
  obtain ⟨bs, hbs, q⟩ := w1
  have so1 := so.step s1
  exact hb σ H1 F1 v d bs _ so1.fo.fh hv1 hbs fun us hus => ok.nx _ H1 F1 _ (so1.sets js _ _ us bs hus) s1.f0 q
/-- a, b = x, y -/
def wPar (i j : Nat) (wa : WA) : WS := fun Ed env => wa env (fun ss => match ss with
  | [.val d, .val d'] => Ed.nx ((env.set i (.val d)).set j (.val d'))
  | _ => False) (Ed.xc env)
theorem psd_par {i j : Nat} {wa : WA} (hb : PS X st (tPar i j (LA X.K W wa))) : PSd X W st (wPar i j wa) := by
  refine ps_imp hb ?_
  rintro D σ H ⟨B, F, env, Ed, so, w, ok⟩
  refine ⟨B, F, env, _, _, so, w, fun vs H1 F1 ss s1 hv1 w1 => ?_, ok.okx so⟩
  try dsimp only at w1
  split at w1
  · rename_i d d'
    match vs, hv1 with
    | [v, v'], hv1 => exact ⟨v, v', rfl, ok.nx _ H1 F1 _ (((so.step s1).put i hv1.1).put j hv1.2.1) s1.f0 w1⟩
    | [], hv1 => exact hv1.elim
    | [_], hv1 => exact hv1.2.elim
    | _ :: _ :: _ :: _, hv1 => exact hv1.2.2.elim
  · exact w1.elim
end

/-! ### defs -/
abbrev Ct := List Sl → DQ → XQ → Prop
def bsOf (pl : Option (Addr × Addr)) (F H : Hp) : Bs := ⟨F, H, plM pl, pl⟩
/-- a def's promise, by data -/
def spC (K : PySem.W.Frag) (n : Nat) (c : Ct) : Sp := fun vs H Q E => vs.length = n ∧ ∃ (pl : Option (Addr × Addr)) (F : Hp) (ss : List Sl) (Qd : DQ) (Xd : XQ), FO (bsOf pl F H) H F ∧ AOk K (bsOf pl F H) F vs ss ∧ c ss Qd Xd ∧
  (∀ v H' F' d, FO (bsOf pl F H) H' F' → Hs K F' v d → Qd d → Q v H') ∧ (∀ cc dd H' F' x, FO (bsOf pl F H) H' F' → XIs K F' H' cc dd x → Xd x → E cc dd H')
theorem aok_len {K : PySem.W.Frag} {B : Bs} {F : Hp} : ∀ {vs : List V} {ss : List Sl}, AOk K B F vs ss → vs.length = ss.length
  | [], [], _ => rfl
  | v :: vs, .val d :: ss, h => by simp [aok_len h.2]
  | v :: vs, .pool :: ss, h => by simp [aok_len h.2]
  | [], _ :: _, h => h.elim
  | _ :: _, [], h => h.elim
  | _ :: _, .un :: _, h => h.elim
  | _ :: _, .cell _ :: _, h => h.elim
  | _ :: _, .exc .. :: _, h => h.elim
theorem aok_pl {K : PySem.W.Frag} {B B' : Bs} {F : Hp} (e : B.pl = B'.pl) : ∀ {vs : List V} {ss : List Sl}, AOk K B F vs ss → AOk K B' F vs ss
  | [], [], _ => trivial
  | v :: vs, .val d :: ss, h => ⟨h.1, aok_pl e h.2⟩
  | v :: vs, .pool :: ss, h => ⟨by obtain ⟨p, l, q, r⟩ := h.1; exact ⟨p, l, e ▸ q, r⟩, aok_pl e h.2⟩
  | [], _ :: _, h => h.elim
  | _ :: _, [], h => h.elim
  | _ :: _, .un :: _, h => h.elim
  | _ :: _, .cell _ :: _, h => h.elim
  | _ :: _, .exc .. :: _, h => h.elim
def wCall (n : Nat) (c : Ct) (wa : WA) : WE := fun env Q X => wa env (fun ss => ss.length = n ∧ c ss Q X) X
theorem le_call {K : PySem.W.Frag} {W : WX} {n : Nat} {c : Ct} {wa : WA} (σ : List (Option V)) (H : Hp) (Q : VK) (h : LE K W (wCall n c wa) σ H Q) : tCallS (spC K n c) (L2.WE W) (LA K W wa) σ H Q := by
  obtain ⟨B, F, env, Qd, Xd, so, w, ok, okx⟩ := h
  refine ⟨B, F, env, _, Xd, so, w, fun vs H1 F1 ss s1 hv w1 => ?_, okx⟩
  exact ⟨by rw [aok_len hv]; exact w1.1, B.pl, F1, ss, Qd, Xd, (so.step s1).fo.refl, aok_pl (B := B) (B' := bsOf B.pl F1 H1) rfl hv, w1.2, fun v H' F' d p => ok v H' F' d (s1.trans p), fun cc dd H' F' x p => okx cc dd H' F' x (s1.trans p)⟩
section
variable {X : Cx} {W : WX} {e : Expr} {es : List Expr} {pos p : Pos} {x : Str} {f : Addr} {fd : FuncData} {ps : List Str} {n k : Nat} {c : Ct} {wa : WA}
theorem pd_call (tk : L2N.Takes X W) (F : FnOk X.prog X.w X.K X.mg X.base (L2N.CX X.prog X.w) k f fd ps (spC X.K n c)) (hr : Room k X.A) (hg : Gl X x) (hm : X.mg x = some (.ref f)) (hk : PySem.W.keepIn X.K (.ref f) = true) (hb : Binds X.K fd ps [])
    (ha : PAd X W (e :: es) wa) (hdb : (x == ("__debug__" : Str)) = false := by decide) (he : starEach (e :: es) X.env = (false, eval e X.env) :: starEach es X.env := by rfl) (hpl : (backTo pos (starEach es X.env)).any (·.1) = false := by rfl) :
    PD X W (.Call (.Name x p) (e :: es) [] pos) (wCall n c wa) :=
  pe_imp (pe_callS F hr hg hm hk hb (fun σ => L2N.passAt tk σ) ha hdb he hpl) le_call
theorem takesN0 {X : Cx} : L2N.Takes X W0 := fun _ _ ⟨_, _, _, _, _, _, _, _, _, _, _, _, _, _, _, _, z⟩ => z.elim
end
def endsOf (Qd : DQ) (Xd : XQ) : WEnds := { nx := fun _ => Qd .none, rt := Qd, xc := fun _ => Xd }
def startE (m : Nat) (ss : List Sl) : List Sl := ss ++ List.replicate (m - ss.length) .un
theorem so_start {K : PySem.W.Frag} {B : Bs} {H F : Hp} {N : List Str} {vs : List V} {ss : List Sl} (fo : FO B H F) (h : AOk K B F vs ss) : SO K B (L2.start N vs) H F (startE N.length ss) := by
  have l := aok_len h
  have main : ∀ {vs : List V} {ss : List Sl}, AOk K B F vs ss → ∀ (i : Nat) (s : Sl), ss[i]? = some s → SlOk K B H F s (vs.map some)[i]? ∧ ∀ xs, s ≠ .cell xs := by
    intro vs
    induction vs with
    | nil =>
      intro ss h i s e
      cases ss with
      | nil => simp at e
      | cons _ _ => exact h.elim
    | cons v vs ih =>
      intro ss h i s e
      cases ss with
      | nil => exact h.elim
      | cons t ss =>
        cases t with
        | val d =>
          cases i with
          | zero => simp at e; subst e; exact ⟨⟨v, by simp, h.1⟩, fun xs z => by cases z⟩
          | succ i => simpa using ih h.2 i s (by simpa using e)
        | pool =>
          cases i with
          | zero =>
            simp at e; subst e
            obtain ⟨⟨p, l, e1, e2⟩, _⟩ := h
            exact ⟨⟨p, l, e1, by simp [e2]⟩, fun xs z => by cases z⟩
          | succ i => simpa using ih h.2 i s (by simpa using e)
        | un => exact h.elim
        | cell _ => exact h.elim
        | exc _ _ _ _ => exact h.elim
  have get : ∀ (i : Nat) (s : Sl), (startE N.length ss)[i]? = some s → SlOk K B H F s (L2.start N vs)[i]? ∧ ∀ xs, s ≠ .cell xs := fun i s e => by
    unfold startE at e
    unfold L2.start
    by_cases hi : i < ss.length
    · rw [List.getElem?_append_left hi] at e
      rw [List.getElem?_append_left (by simpa [l] using hi)]
      exact main h i s e
    · rw [List.getElem?_append_right (by omega), List.getElem?_replicate] at e
      split at e
      · cases e
        exact ⟨True.intro, fun xs z => by cases z⟩
      · cases e
  exact ⟨fo, by simp [startE, L2.start, l], fun i s e => (get i s e).1, fun i j xs ys a h1 _ _ _ => ((get i _ h1).2 xs rfl).elim⟩
section
variable {P : Program} {w : World} {K : PySem.W.Frag} {mg : Str → Option Value} {base : Heap}
theorem fn_ok {x qual : Str} {st : Stmt} {f : Addr} {fd : FuncData} {N ps : List Str} {k n : Nat} {c : Ct} {wb : WS} (F : Fun K x qual st f fd) (S : FnScope N ps (defScope st)) (hn : ps.length = n)
    (hd : ∀ (cdv : Value) (A : Around) (outer : List Env) (s : Shared) (H : Hp) (E : XK), Room k (cxOf (L2N.CX P w) P w K mg base N qual (defScope st) f cdv A outer s H E).A → L2N.Takes (cxOf (L2N.CX P w) P w K mg base N qual (defScope st) f cdv A outer s H E) (fun cls d _ H => E cls d H) →
      PSsd (cxOf (L2N.CX P w) P w K mg base N qual (defScope st) f cdv A outer s H E) (fun cls d _ H => E cls d H) (defBody st) wb) (hw : ∀ ss Qd Xd, c ss Qd Xd → wb (endsOf Qd Xd) (startE N.length ss)) :
    FnOk P w K mg base (L2N.CX P w) (k + 1) f fd ps (spC K n c) := by
  obtain ⟨oc, od, kV, doc, pm, an, cdv, ct, osl, rfl, lk, hcd⟩ := F.ex
  refine fn_of lk hcd S (fun vs H Q E h => by rw [h.1, hn]) fun A outer s H vs Q E hr h => ?_
  obtain ⟨hl, pl, F0, ss, Qd, Xd, fo, ha, hc, hq, hx⟩ := h
  refine ⟨_, hd cdv A outer s H E hr (L2N.takes_of rfl rfl rfl rfl), ?_⟩
  refine ⟨bsOf pl F0 H, F0, startE N.length ss, endsOf Qd Xd, so_start fo ha, hw ss Qd Xd hc, ?_⟩
  exact ⟨fun σ' H' F' env' so _ q => hq .non H' F' .none so.fo .non q, fun _ _ _ _ _ _ z => z.elim, fun _ _ _ _ _ _ z => z.elim, hq, fun cc dd σ' H' F' env' x so _ hx' q => hx cc dd H' F' x so.fo hx' q⟩
end
end Hw
-- HwE
set_option Elab.async false
set_option linter.all false
set_option maxRecDepth 100000
set_option maxHeartbeats 2000000
namespace Hw
open PySem L2
/-! ### more built-ins by data -/
def fGcd : List PyData → DQ → Prop := fun ds Q => match ds with
  | [.int a, .int b] => Q (.int ((Nat.gcd a.natAbs b.natAbs : Nat) : Int))
  | _ => False
theorem cad_gcd {K : PySem.W.Frag} : CaD K rGcd fGcd := by
  intro B H F xs ds Qd Q fo hx w ok
  unfold fGcd at w
  split at w
  · rename_i a b
    cases hx with
    | cons h1 h2 =>
      cases h2 with
      | cons h2 h3 =>
        cases h3
        exact ⟨a, b, by rw [dp_int h1, dp_int h2], ok _ H F _ fo.refl (.int _) w⟩
  · exact w.elim
abbrev rLen (K : PySem.W.Frag) : List V → Hp → VK → Prop := fun xs H Q => ∃ x n, xs = [x] ∧ LenV K x H n ∧ Q (.int n) H
def fLen : List PyData → DQ → Prop := fun ds Q => match ds with
  | [.list xs] => Q (.int (xs.length : Nat))
  | [.tuple xs] => Q (.int (xs.length : Nat))
  | [.str z] => z.length ≤ 16777216 ∧ Q (.int (z.length : Nat))
  | _ => False
theorem cad_len {K : PySem.W.Frag} : CaD K (rLen K) fLen := by
  intro B H F xs ds Qd Q fo hx w ok
  unfold fLen at w
  split at w
  · rename_i ys
    cases hx with
    | cons h1 h2 =>
      cases h2
      cases h1 with
      | @lst a vs _ hl ha => exact ⟨_, vs.length, rfl, .inl ⟨vs, Evl.sq_of (fo.fh _ _ hl), rfl⟩, ok _ H F _ fo.refl (.int _) (by rw [dpA_len ha]; exact w)⟩
  · rename_i ys
    cases hx with
    | cons h1 h2 =>
      cases h2
      cases h1 with
      | @tup a vs _ hl ha => exact ⟨_, vs.length, rfl, .inr ⟨vs, Evl.ex_t fo.fh hl, rfl⟩, ok _ H F _ fo.refl (.int _) (by rw [dpA_len ha]; exact w)⟩
  · rename_i z
    cases hx with
    | cons h1 h2 =>
      cases h2
      exact ⟨_, z.length, rfl, by rw [dp_str h1]; exact ⟨line_le w.1, rfl⟩, ok _ H F _ fo.refl (.int _) w.2⟩
  · exact w.elim
abbrev rAbs : List V → Hp → VK → Prop := fun xs H Q => ∃ i, xs = [.int i] ∧ Q (.int (if i < 0 then -i else i)) H
def fAbs : List PyData → DQ → Prop := fun ds Q => match ds with
  | [.int i] => Q (.int (i.natAbs : Nat))
  | _ => False
theorem abs_eq (i : Int) : (if i < 0 then -i else i) = ((i.natAbs : Nat) : Int) := by
  split <;> omega
theorem cad_abs {K : PySem.W.Frag} : CaD K rAbs fAbs := by
  intro B H F xs ds Qd Q fo hx w ok
  unfold fAbs at w
  split at w
  · rename_i i
    cases hx with
    | cons h1 h2 =>
      cases h2
      refine ⟨i, by rw [dp_int h1], ?_⟩
      rw [abs_eq]
      exact ok _ H F _ fo.refl (.int _) w
  · exact w.elim
abbrev rInt1 : List V → Hp → VK → Prop := fun xs H Q => (∃ i, xs = [.int i] ∧ Q (.int i) H) ∨ ∃ k, xs = [.bl k] ∧ Q (.int (if k then 1 else 0)) H
def fInt1 : List PyData → DQ → Prop := fun ds Q => match ds with
  | [.int i] => Q (.int i)
  | _ => False
theorem cad_int1 {K : PySem.W.Frag} : CaD K rInt1 fInt1 := by
  intro B H F xs ds Qd Q fo hx w ok
  unfold fInt1 at w
  split at w
  · rename_i i
    cases hx with
    | cons h1 h2 =>
      cases h2
      exact .inl ⟨i, by rw [dp_int h1], ok _ H F _ fo.refl (.int _) w⟩
  · exact w.elim
def fAll : List PyData → DQ → Prop := fun ds Q => match ds with
  | [.list xs] => ∃ bs : List Bool, xs = bs.map PyData.bool ∧ Q (.bool (bs.all id))
  | _ => False
theorem cad_all {K : PySem.W.Frag} : CaD K (rAll K) fAll := by
  intro B H F xs ds Qd Q fo hx w ok
  unfold fAll at w
  split at w
  · rename_i ys
    obtain ⟨bs, rfl, w⟩ := w
    cases hx with
    | cons h1 h2 =>
      cases h2
      cases h1 with
      | @lst a vs _ hl ha =>
        have e := dp_bools ha
        subst e
        exact ⟨a, bs, rfl, Evl.sq_of (fo.fh _ _ hl), ok _ H F _ fo.refl (.bl _) w⟩
  · exact w.elim
abbrev rTupOf (K : PySem.W.Frag) : List V → Hp → VK → Prop := fun xs H Q => ∃ p ys, xs = [.ref p] ∧ ((SqL K H p ys ∧ ∀ l, H l = none → Q (.ref l) (upd H l (.tup ys))) ∨ (SqT K H p ys ∧ Q (.ref p) H))
def fTupOf : List PyData → DQ → Prop := fun ds Q => match ds with
  | [.list xs] => Q (.tuple xs)
  | [.tuple xs] => Q (.tuple xs)
  | _ => False
theorem cad_tupOf {K : PySem.W.Frag} : CaD K (rTupOf K) fTupOf := by
  intro B H F xs ds Qd Q fo hx w ok
  unfold fTupOf at w
  split at w
  · rename_i ys
    cases hx with
    | cons h1 h2 =>
      cases h2
      cases h1 with
      | @lst a vs _ hl ha =>
        refine ⟨a, vs, rfl, .inl ⟨Evl.sq_of (fo.fh _ _ hl), fun p hp => ?_⟩⟩
        exact ok (.ref p) _ _ _ (fo.alloc hp) (.tup (Evl.st_of upd_same) (dpmA (Evl.Ex.new (fo.fnone hp)) _ _ ha)) w
  · rename_i ys
    cases hx with
    | cons h1 h2 =>
      cases h2
      cases h1 with
      | @tup a vs _ hl ha => exact ⟨a, vs, rfl, .inr ⟨Evl.ex_t fo.fh hl, ok _ H F _ fo.refl (.tup hl ha) w⟩⟩
  · exact w.elim
/-- list(x): a new list -/
abbrev rLstOf (K : PySem.W.Frag) : List V → Hp → VK → Prop := fun xs H Q => ∃ p ys, xs = [.ref p] ∧ (SqL K H p ys ∨ SqT K H p ys) ∧ ∀ l, H l = none → Q (.ref l) (upd H l (.lst ys))
def wLstOf (we : WE) : WE := fun env Q X => we env (fun d => match d with
  | .list xs => Q (.list xs)
  | .tuple xs => Q (.list xs)
  | _ => False) X
section
variable {X : Cx} {W : WX} {e : Expr} {es : List Expr} {we wa wb : WE} {pos p : Pos} {a b : Expr}
theorem pf_lstOf (hg : Gl X "list") (hm : X.mg "list" = none) (h : PD X W e we) (hs : starEach [e] X.env = (false, eval e X.env) :: starEach [] X.env := by rfl) (hpl : (backTo pos (starEach [] X.env)).any (·.1) = false := by rfl) :
    PF X W (.Call (.Name "list" p) [e] [] pos) (wLstOf we) := by
  refine pe_imp (pe_callTy call_list_of hg hm PyProof.Rows.boot_list (pa_cons h pa_nil hs) (by decide) (by decide) hs hpl) ?_
  rintro σ H Q ⟨B, F, env, Qd, Xd, so, w, ok, okx⟩
  refine ⟨B, F, env, _, Xd, so, w, fun x H1 F1 dx s1 hx w1 => ?_, okx⟩
  try dsimp only at w1
  have fo := (so.step s1).fo
  split at w1
  · cases hx with
    | @lst a xs _ hl ha => exact ⟨a, xs, rfl, .inl (Evl.sq_of (fo.fh _ _ hl)), fun q hq => ok q xs _ F1 _ (s1.trans (fo.lay hq)) (fo.fnone hq) (s1.dom q hq) upd_same ha w1⟩
  · cases hx with
    | @tup a xs _ hl ha => exact ⟨a, xs, rfl, .inr (Evl.ex_t fo.fh hl), fun q hq => ok q xs _ F1 _ (s1.trans (fo.lay hq)) (fo.fnone hq) (s1.dom q hq) upd_same ha w1⟩
  · exact w1.elim
/-- isinstance(e, T), T a built-in type -/
def wIsi (g : PyData → Bool) (we : WE) : WE := fun env Q X => we env (fun d => Q (.bool (g d))) X
theorem pd_isi {S : String} {g : PyData → Bool} (hk : ∀ d, kitB (tyD d) S = some (g d)) (hg : Gl X "isinstance") (hm : X.mg "isinstance" = none) (h : PD X W e we) (hT : PE X b (tC (.ty S)))
    (hs : starEach [e, b] X.env = (false, eval e X.env) :: starEach [b] X.env := by rfl) (hs2 : starEach [b] X.env = (false, eval b X.env) :: starEach [] X.env := by rfl) (hpl : (backTo pos (starEach [b] X.env)).any (·.1) = false := by rfl) :
    PD X W (.Call (.Name "isinstance" p) [e, b] [] pos) (wIsi g we) := by
  refine pe_imp (pe_callB call_isi hg hm (by decide +kernel) (pa_cons h (pa_cons hT pa_nil hs2) hs) (by decide) (by decide) hs hpl) ?_
  rintro σ H Q ⟨B, F, env, Qd, Xd, so, w, ok, okx⟩
  refine ⟨B, F, env, _, Xd, so, w, fun x H1 F1 dx s1 hx w1 => ?_, okx⟩
  have fo := (so.step s1).fo
  exact ⟨x, .ty S, .type (tyD dx), .type S, g dx, rfl, .ty S, hs_ty (dpm fo.fh dx x hx), kit_ty (hk dx), ok _ H1 F1 _ s1 (.bl _) w1⟩
def isTup : PyData → Bool
  | .tuple _ => true
  | _ => false
def isInt : PyData → Bool
  | .int _ => true
  | .bool _ => true
  | _ => false
def isBool : PyData → Bool
  | .bool _ => true
  | _ => false
def isStr : PyData → Bool
  | .str _ => true
  | _ => false
def isLst : PyData → Bool
  | .list _ => true
  | _ => false
theorem kit_tup : ∀ d, kitB (tyD d) "tuple" = some (isTup d)
  | .none => (by decide +kernel : kitB "NoneType" "tuple" = some false)
  | .bool _ => (by decide +kernel : kitB "bool" "tuple" = some false)
  | .int _ => (by decide +kernel : kitB "int" "tuple" = some false)
  | .str _ => (by decide +kernel : kitB "str" "tuple" = some false)
  | .list _ => (by decide +kernel : kitB "list" "tuple" = some false)
  | .tuple _ => (by decide +kernel : kitB "tuple" "tuple" = some true)
  | .dict _ => (by decide +kernel : kitB "dict" "tuple" = some false)
theorem kit_int : ∀ d, kitB (tyD d) "int" = some (isInt d)
  | .none => (by decide +kernel : kitB "NoneType" "int" = some false)
  | .bool _ => (by decide +kernel : kitB "bool" "int" = some true)
  | .int _ => (by decide +kernel : kitB "int" "int" = some true)
  | .str _ => (by decide +kernel : kitB "str" "int" = some false)
  | .list _ => (by decide +kernel : kitB "list" "int" = some false)
  | .tuple _ => (by decide +kernel : kitB "tuple" "int" = some false)
  | .dict _ => (by decide +kernel : kitB "dict" "int" = some false)
theorem kit_bool : ∀ d, kitB (tyD d) "bool" = some (isBool d)
  | .none => (by decide +kernel : kitB "NoneType" "bool" = some false)
  | .bool _ => (by decide +kernel : kitB "bool" "bool" = some true)
  | .int _ => (by decide +kernel : kitB "int" "bool" = some false)
  | .str _ => (by decide +kernel : kitB "str" "bool" = some false)
  | .list _ => (by decide +kernel : kitB "list" "bool" = some false)
  | .tuple _ => (by decide +kernel : kitB "tuple" "bool" = some false)
  | .dict _ => (by decide +kernel : kitB "dict" "bool" = some false)
theorem kit_str : ∀ d, kitB (tyD d) "str" = some (isStr d)
  | .none => (by decide +kernel : kitB "NoneType" "str" = some false)
  | .bool _ => (by decide +kernel : kitB "bool" "str" = some false)
  | .int _ => (by decide +kernel : kitB "int" "str" = some false)
  | .str _ => (by decide +kernel : kitB "str" "str" = some true)
  | .list _ => (by decide +kernel : kitB "list" "str" = some false)
  | .tuple _ => (by decide +kernel : kitB "tuple" "str" = some false)
  | .dict _ => (by decide +kernel : kitB "dict" "str" = some false)
theorem kit_lst : ∀ d, kitB (tyD d) "list" = some (isLst d)
  | .none => (by decide +kernel : kitB "NoneType" "list" = some false)
  | .bool _ => (by decide +kernel : kitB "bool" "list" = some false)
  | .int _ => (by decide +kernel : kitB "int" "list" = some false)
  | .str _ => (by decide +kernel : kitB "str" "list" = some false)
  | .list _ => (by decide +kernel : kitB "list" "list" = some true)
  | .tuple _ => (by decide +kernel : kitB "tuple" "list" = some false)
  | .dict _ => (by decide +kernel : kitB "dict" "list" = some false)
/-! * of ints, of a list and an int -/
def rMulA : R2 := fun x y H Q => (rI CMulW fun i j => .int (i * j)) x y H Q ∨ ((rI CMul fun i j => .int (i * j)) x y H Q ∨ rRep x y H Q)
theorem op_mulA : OpR X (binaryOp .Mult) rMulA := opr_or op_mulW (opr_or op_mul op_rep)
def fMulA : PyData → PyData → DQ → Prop := fun x y Q => match x, y with
  | .int i, .int j => (i.natAbs.log2 + j.natAbs.log2 < 1000000 ∨ ((-(2 ^ 64) < i ∧ i < 2 ^ 64) ∨ (-(2 ^ 64) < j ∧ j < 2 ^ 64))) ∧ Q (.int (i * j))
  | .list ds, .int k => -(2 ^ 63) ≤ k ∧ k < 2 ^ 63 ∧ ds.length * k.toNat ≤ 16777216 ∧ Q (.list (List.replicate k.toNat ds).flatten)
  | _, _ => False
theorem opd_mulA {K : PySem.W.Frag} : OpD K rMulA fMulA := by
  intro B H F x y dx dy Qd Q fo hx hy w ok
  unfold fMulA at w
  split at w
  · rename_i i j
    rcases w.1 with c | c
    · exact .inl ⟨i, j, dp_int hx, dp_int hy, c, ok _ H F _ fo.refl (.int _) w.2⟩
    · exact .inr (.inl ⟨i, j, dp_int hx, dp_int hy, c, ok _ H F _ fo.refl (.int _) w.2⟩)
  · rename_i ds k
    cases hx with
    | @lst a xs _ hl ha =>
      refine .inr (.inr ⟨a, k, xs, rfl, dp_int hy, fo.fh _ _ hl, w.1, w.2.1, line_le (by rw [dpA_len ha]; exact w.2.2.1), fun q hq => ?_⟩)
      exact ok (.ref q) _ _ _ (fo.alloc hq) (.lst upd_same (dpmA (Evl.Ex.new (fo.fnone hq)) _ _ (dpA_rep ha _))) w.2.2.2
  · exact w.elim
/-! ### slices -/
abbrev WO := List Sl → (Option Int → Prop) → XQ → Prop
def LO (K : PySem.W.Frag) (W : WX) (w : WO) : TO := fun σ H Q => ∃ B F env Qd Xd, SO K B σ H F env ∧ w env Qd Xd ∧ (∀ o H' F', FO (stp B F H) H' F' → Qd o → Q o H') ∧ OkX K B F H σ Xd W
def POd (X : Cx) (W : WX) (e : Option Expr) (w : WO) : Prop := PO X e (LO X.K W w)
theorem po_imp {X : Cx} {e : Option Expr} {t t' : TO} (h : PO X e t) (i : ∀ σ H Q, t' σ H Q → t σ H Q) : PO X e t' := ⟨fun ps s σ H Q I q => h.run ps s σ H Q I (i σ H Q q)⟩
def oNone : WO := fun _ Q _ => Q none
def oSome (we : WE) : WO := fun env Q X => we env (fun d => match d with
  | .int i => Q (some i)
  | _ => False) X
theorem pod_none : POd X W none oNone := by
  refine po_imp po_none ?_
  rintro σ H Q ⟨B, F, env, Qd, Xd, so, w, ok, okx⟩
  exact ok none H F so.fo.refl w
theorem pod_some (h : PD X W e we) : POd X W (some e) (oSome we) := by
  refine po_imp (po_some h) ?_
  rintro σ H Q ⟨B, F, env, Qd, Xd, so, w, ok, okx⟩
  refine ⟨B, F, env, _, Xd, so, w, fun x H1 F1 dx s1 hx w1 => ?_, okx⟩
  try dsimp only at w1
  split at w1
  · rename_i i
    exact ⟨i, dp_int hx, ok _ H1 F1 s1 w1⟩
  · exact w1.elim
def cutD (xs : List PyData) (lo hi : Option Int) : List PyData := (xs.drop (HT.sIx xs.length 0 lo)).take (HT.sIx xs.length xs.length hi - HT.sIx xs.length 0 lo)
theorem cut_hs {K : PySem.W.Frag} {F : Hp} {vs : List V} {ds : List PyData} {lo hi : Option Int} (h : HsA K F vs ds) : HsA K F (cutV vs lo hi) (cutD ds lo hi) := by
  unfold cutV cutD
  rw [dpA_len h]
  exact dpA_take (dpA_drop h)
def wSl (we : WE) (lo hi : WO) : WE := fun env Q X => we env (fun d => lo env (fun l => hi env (fun h => match d with
  | .list ds => Q (.list (cutD ds l h))
  | .tuple ds => Q (.tuple (cutD ds l h))
  | _ => False) X) X) X
def rSlLT (K : PySem.W.Frag) : V → Option Int → Option Int → Hp → VK → Prop := fun x lo hi H Q => rSlL K x lo hi H Q ∨ rSlA K x lo hi H Q
theorem cut_whole {ds : List PyData} {lo hi : Option Int} (h : HT.sIx ds.length 0 lo = 0 ∧ HT.sIx ds.length ds.length hi = ds.length) : cutD ds lo hi = ds := by
  unfold cutD
  rw [h.1, h.2]
  simp
theorem pd_slice {lo hi : Option Expr} {wl wh : WO} {p2 : Pos} (h : PD X W e we) (hl : POd X W lo wl) (hh : POd X W hi wh) : PD X W (.Subscript e (.Slice lo hi none p2) pos) (wSl we wl wh) := by
  refine pe_imp (pe_slice (r := rSlLT X.K) (sl_list.or sl_tupA) h hl hh) ?_
  rintro σ H Q ⟨B, F, env, Qd, Xd, so, w, ok, okx⟩
  refine ⟨B, F, env, _, Xd, so, w, fun x H1 F1 dx s1 hx w1 => ?_, okx⟩
  refine ⟨B, F1, env, _, Xd, so.step s1, w1, fun l H2 F2 s2 w2 => ?_, okx.step s1⟩
  refine ⟨B, F2, env, _, Xd, (so.step s1).step s2, w2, fun u H3 F3 s3 w3 => ?_, (okx.step s1).step s2⟩
  have fo := (((so.step s1).step s2).step s3).fo
  have st := (s1.trans s2).trans s3
  have hx3 := dpm (s2.f0.trans s3.f0) dx x hx
  try dsimp only at w3
  split at w3
  · cases hx3 with
    | @lst a xs ds hl ha =>
      refine .inl ⟨a, xs, rfl, Evl.sq_of (fo.fh _ _ hl), fun q hq => ?_⟩
      exact ok (.ref q) _ _ _ (st.trans (fo.alloc hq)) (.lst upd_same (dpmA (Evl.Ex.new (fo.fnone hq)) _ _ (cut_hs ha))) w3
  · cases hx3 with
    | @tup a xs ds hl ha =>
      have le := dpA_len ha
      refine .inr ⟨a, xs, rfl, Evl.ex_t fo.fh hl, fun hw => ?_, fun hw q hq => ?_⟩
      · rw [le] at hw
        rw [cut_whole hw] at w3
        exact ok (.ref a) H3 F3 _ st (.tup hl ha) w3
      · exact ok (.ref q) _ _ _ (st.trans (fo.alloc hq)) (.tup (Evl.st_of upd_same) (dpmA (Evl.Ex.new (fo.fnone hq)) _ _ (cut_hs ha))) w3
  · exact w3.elim
/-- xs[::-1] of a list -/
def wRev (we : WE) : WE := fun env Q X => we env (fun d => match d with
  | .list ds => Q (.list ds.reverse)
  | _ => False) X
theorem pd_rev {k : Nat} {p1 p2 p3 : Pos} (h : PD X W e we) : PD X W (.Subscript e (.Slice none none (some (.UnaryOp .USub (.Constant (.int 1) k p1) p2)) p3) pos) (wRev we) := by
  refine pe_imp (pe_revL h) ?_
  rintro σ H Q ⟨B, F, env, Qd, Xd, so, w, ok, okx⟩
  refine ⟨B, F, env, _, Xd, so, w, fun x H1 F1 dx s1 hx w1 => ?_, okx⟩
  have fo := (so.step s1).fo
  try dsimp only at w1
  split at w1
  · cases hx with
    | @lst a xs ds hl ha =>
      exact ⟨a, xs, rfl, Evl.sq_of (fo.fh _ _ hl), fun q hq => ok (.ref q) _ _ _ (s1.trans (fo.alloc hq)) (.lst upd_same (dpmA (Evl.Ex.new (fo.fnone hq)) _ _ (dpA_rev ha))) w1⟩
  · exact w1.elim
/-! ### a list of one's own that is only looked at -/
/-- x[i], len(x), tuple(x): the slot's list as it stands -/
def wIxC (j : Nat) (wi : WE) : WE := fun env Q X => match slot env j with
  | .cell ds => wi env (fun di => match di with
    | .int i => ∃ d, atI ds i = some d ∧ Q d
    | _ => False) X
  | _ => False
theorem pd_ixC (j : Nat) {i : Expr} {wi : WE} {x : Str} {p2 : Pos} (hi : PD X W i wi) (hs : PlainIx i) (hN : X.N[j]? = some x := by rfl) (hv : Vis X.env.scope x := by first | exact Or.inl rfl | exact Or.inr (Or.inl rfl) | exact Or.inr (Or.inr rfl)) (hd : (x == ("__debug__" : Str)) = false := by decide)
    (hcd : (x == ("__classdict__" : Str)) = false := by decide) : PD X W (.Subscript (.Name x p2) i pos) (wIxC j wi) := by
  refine pe_imp (pe_ix ix_list (pe_var hN hv hd hcd) hi hs) ?_
  rintro σ H Q ⟨B, F, env, Qd, Xd, so, w, ok, okx⟩
  unfold wIxC at w
  split at w
  · rename_i ds hsl
    obtain ⟨a, vs, hj, e, _, _⟩ := slot_cell so hsl
    refine ⟨.ref a, e, B, F, env, _, Xd, so, w, fun iv H1 F1 di s1 hiv w1 => ?_, okx⟩
    have so1 := so.step s1
    obtain ⟨a', vs', hj', e', hh', hd'⟩ := slot_cell so1 hsl
    rw [e] at e'
    cases e'
    try dsimp only at w1
    split at w1
    · rename_i k
      obtain ⟨d, e2, q⟩ := w1
      obtain ⟨v, hv, hvd⟩ := atI_hs hd' e2
      exact ⟨a, vs', k, v, rfl, dp_int hiv, Evl.sq_of hh', hv, ok v H1 F1 d s1 hvd q⟩
    · exact w1.elim
  · exact w.elim
def wLenC (j : Nat) : WE := fun env Q _ => match slot env j with
  | .cell ds => Q (.int (ds.length : Nat))
  | _ => False
theorem pd_lenC (j : Nat) {x : Str} {p2 : Pos} (hg : Gl X "len") (hm : X.mg "len" = none) (hN : X.N[j]? = some x := by rfl) (hv : Vis X.env.scope x := by first | exact Or.inl rfl | exact Or.inr (Or.inl rfl) | exact Or.inr (Or.inr rfl)) (hd : (x == ("__debug__" : Str)) = false := by decide)
    (hcd : (x == ("__classdict__" : Str)) = false := by decide) : PD X W (.Call (.Name "len" p) [.Name x p2] [] pos) (wLenC j) := by
  refine pe_imp (pe_callB call_len hg hm PySem.boot_len (pa_cons (pe_var hN hv hd hcd) pa_nil)) ?_
  rintro σ H Q ⟨B, F, env, Qd, Xd, so, w, ok, okx⟩
  unfold wLenC at w
  split at w
  · rename_i ds hsl
    obtain ⟨a, vs, hj, e, hh, hd'⟩ := slot_cell so hsl
    exact ⟨.ref a, e, _, vs.length, rfl, .inl ⟨vs, Evl.sq_of hh, rfl⟩, ok _ H F _ so.fo.refl (.int _) (by rw [dpA_len hd']; exact w)⟩
  · exact w.elim
def wTupC (j : Nat) : WE := fun env Q _ => match slot env j with
  | .cell ds => Q (.tuple ds)
  | _ => False
theorem pd_tupC (j : Nat) {x : Str} {p2 : Pos} (hg : Gl X "tuple") (hm : X.mg "tuple" = none) (hN : X.N[j]? = some x := by rfl) (hv : Vis X.env.scope x := by first | exact Or.inl rfl | exact Or.inr (Or.inl rfl) | exact Or.inr (Or.inr rfl)) (hd : (x == ("__debug__" : Str)) = false := by decide)
    (hcd : (x == ("__classdict__" : Str)) = false := by decide) : PD X W (.Call (.Name "tuple" p) [.Name x p2] [] pos) (wTupC j) := by
  refine pe_imp (pe_callTy call_tuple_of hg hm PyProof.Rows.boot_tuple (pa_cons (pe_var hN hv hd hcd) pa_nil)) ?_
  rintro σ H Q ⟨B, F, env, Qd, Xd, so, w, ok, okx⟩
  unfold wTupC at w
  split at w
  · rename_i ds hsl
    obtain ⟨a, vs, hj, e, hh, hd'⟩ := slot_cell so hsl
    refine ⟨.ref a, e, a, vs, rfl, .inl ⟨Evl.sq_of hh, fun q hq => ?_⟩⟩
    exact ok (.ref q) _ _ _ (so.fo.alloc hq) (.tup (Evl.st_of upd_same) (dpmA (Evl.Ex.new (so.fo.fnone hq)) _ _ hd')) w
  · exact w.elim
end
end Hw
-- HwF
set_option Elab.async false
set_option linter.all false
set_option maxRecDepth 100000
set_option maxHeartbeats 2000000
namespace Hw
open PySem L2
/-! ### calls whose arguments are all keywords -/
def perm {α : Type} (is : List Nat) (l : List α) : List α := is.filterMap fun i => l[i]?
theorem vals_perm {vs : List V} {us : List Value} (h : Vals vs us) : ∀ is : List Nat, Vals (perm is vs) (perm is us)
  | [] => .nil
  | i :: is => by
    unfold perm
    rw [List.filterMap_cons, List.filterMap_cons]
    cases e : vs[i]? with
    | none =>
      have e2 : us[i]? = none := by
        rw [List.getElem?_eq_none_iff] at e ⊢
        rw [← h.length]; exact e
      rw [e2]
      exact vals_perm h is
    | some v =>
      obtain ⟨u, hu, r⟩ := h.get e
      rw [hu]
      exact .cons r (vals_perm h is)
theorem aok_get {K : PySem.W.Frag} {B : Bs} {F : Hp} : ∀ {vs : List V} {ss : List Sl} (i : Nat), AOk K B F vs ss → (vs[i]? = none ∧ ss[i]? = none) ∨ ∃ v s, vs[i]? = some v ∧ ss[i]? = some s ∧ AOk K B F [v] [s]
  | [], [], i, _ => .inl ⟨by simp, by simp⟩
  | v :: vs, .val d :: ss, 0, h => .inr ⟨v, .val d, rfl, rfl, h.1, trivial⟩
  | v :: vs, .pool :: ss, 0, h => .inr ⟨v, .pool, rfl, rfl, h.1, trivial⟩
  | v :: vs, .val d :: ss, i + 1, h => by simpa using aok_get i h.2
  | v :: vs, .pool :: ss, i + 1, h => by simpa using aok_get i h.2
  | [], _ :: _, _, h => h.elim
  | _ :: _, [], _, h => h.elim
  | _ :: _, .un :: _, _, h => h.elim
  | _ :: _, .cell _ :: _, _, h => h.elim
  | _ :: _, .exc .. :: _, _, h => h.elim
theorem aok_cons {K : PySem.W.Frag} {B : Bs} {F : Hp} {v : V} {s : Sl} {vs : List V} {ss : List Sl} (h1 : AOk K B F [v] [s]) (h2 : AOk K B F vs ss) : AOk K B F (v :: vs) (s :: ss) := by
  cases s with
  | val d => exact ⟨h1.1, h2⟩
  | pool => exact ⟨h1.1, h2⟩
  | un => exact h1.elim
  | cell _ => exact h1.elim
  | exc _ _ _ _ => exact h1.elim
theorem aok_perm {K : PySem.W.Frag} {B : Bs} {F : Hp} {vs : List V} {ss : List Sl} (h : AOk K B F vs ss) : ∀ is : List Nat, AOk K B F (perm is vs) (perm is ss)
  | [] => trivial
  | i :: is => by
    unfold perm
    rw [List.filterMap_cons, List.filterMap_cons]
    rcases aok_get i h with ⟨e1, e2⟩ | ⟨v, s, e1, e2, a⟩
    · rw [e1, e2]; exact aok_perm h is
    · rw [e1, e2]; exact aok_cons a (aok_perm h is)
def PKd (X : Cx) (W : WX) (kws : List Keyword) (w : WA) : Prop := PK X kws (LA X.K W w)
theorem pk_imp {X : Cx} {k : List Keyword} {t t' : TA} (h : PK X k t) (i : ∀ σ H Q, t' σ H Q → t σ H Q) : PK X k t' := ⟨fun pos ps s σ H Q I q => h.run pos ps s σ H Q I (i σ H Q q)⟩
/-- what binds keywords alone: the parameters' values out of the keywords' -/
structure KW (K : PySem.W.Frag) (fd : FuncData) (ps ks : List Str) (is : List Nat) : Prop where
  to : ∀ (s : Shared) (ws : List Value), K.In s.heap → ws.length = ks.length → BindsTo s fd ⟨[], ks.zip ws⟩ (ps.zip (perm is ws))
theorem kw_mk {K : PySem.W.Frag} {x qual : Str} {st : Stmt} {f : Addr} {fd : FuncData} {ps : List Str} (F : Fun K x qual st f fd) (ks : List Str) (is : List Nat)
    (h : ∀ (kV doc pm : Value) (an : Option Addr) (cdv ct : Value) (ws : List Value), ws.length = ks.length → bindArgs (PySem.W.fnOf x qual (defArgs st) (defBody st) (defScope st) .none kV doc pm an cdv ct) ⟨[], ks.zip ws⟩ = pure (ps.zip (perm is ws))) : KW K fd ps ks is := by
  obtain ⟨oc, od, kV, doc, pm, an, cdv, ct, osl, rfl, lk, hcd⟩ := F.ex
  exact ⟨fun s ws _ l => .of_eq (h kV doc pm an cdv ct ws l)⟩
def wCallK (n m : Nat) (is : List Nat) (c : Ct) (wk : WA) : WE := fun env Q X => wk env (fun ss => ss.length = m ∧ (perm is ss).length = n ∧ c (perm is ss) Q X) X
section
variable {X : Cx} {W : WX} {e : Expr} {kws : List Keyword} {pos p kpos : Pos} {x : Str} {f : Addr} {fd : FuncData} {ps ks : List Str} {is : List Nat} {n k : Nat} {c : Ct} {wk : WA} {we : WE} {nm : Option Str}
theorem pkd_nil : PKd X W [] aNil := by
  refine pk_imp pk_nil ?_
  rintro σ H Q ⟨B, F, env, Qd, Xd, so, w, ok, okx⟩
  exact ok [] H F [] so.fo.refl trivial w
theorem pkd_cons {wr : WA} (he : PD X W e we) (hr : PKd X W kws wr) : PKd X W (⟨nm, e, kpos⟩ :: kws) (aCons we wr) := by
  refine pk_imp (pk_cons he hr) ?_
  rintro σ H Q ⟨B, F, env, Qd, Xd, so, w, ok, okx⟩
  refine ⟨B, F, env, _, Xd, so, w, fun x H1 F1 dx s1 hx w1 => ?_, okx⟩
  refine ⟨B, F1, env, _, Xd, so.step s1, w1, fun vs H2 F2 ss s2 hv w2 => ?_, okx.step s1⟩
  exact ok (x :: vs) H2 F2 (.val dx :: ss) (s1.trans s2) ⟨dpm s2.f0 dx x hx, hv⟩ w2
theorem pd_callK (tk : L2N.Takes X W) (F : FnOk X.prog X.w X.K X.mg X.base (L2N.CX X.prog X.w) k f fd ps (spC X.K n c)) (hr : Room k X.A) (hg : Gl X x) (hm : X.mg x = some (.ref f)) (hk : PySem.W.keepIn X.K (.ref f) = true) (hb : KW X.K fd ps ks is)
    (hkw : PKd X W kws wk) (hall : (backToKw pos (keywordEach kws X.env)).all (·.1.isSome) = true := by rfl) (hks : (backToKw pos (keywordEach kws X.env)).filterMap (·.1) = ks := by rfl) (hdb : (x == ("__debug__" : Str)) = false := by decide)
    (hpl : ((backTo pos (starEach [] X.env)).any (·.1) || (backToKw pos (keywordEach kws X.env)).any (·.1.isNone)) = false := by rfl) :
    PD X W (.Call (.Name x p) [] kws pos) (wCallK n ks.length is c wk) := by
  refine ⟨fun pins s σ H Q I ⟨B, F0, env, Qd, Xd, so, w, ok, okx⟩ => ?_⟩
  refine wpAny_Call_Name_kw (ld_glob I hg hm (PySem.W.callWith_KW0 (h₀ := X.base) I.ok.mod.kin hk hall ?_ hpl) hdb)
  refine thn (hkw.run pos pins s σ H (fun zs H2 => zs.length = ks.length ∧ spC X.K n c (perm is zs) H2 Q (L2.WE W σ)) I ?_) fun ws s2 ⟨zs, H2, I2, rz, l2, q2⟩ => ⟨I2.kIn, ?_⟩
  · refine ⟨B, F0, env, _, Xd, so, w, fun vs H1 F1 ss s1 hv w1 => ⟨by rw [aok_len hv]; exact w1.1, ?_⟩, okx⟩
    have ha := aok_perm hv is
    exact ⟨by rw [aok_len ha]; exact w1.2.1, B.pl, F1, perm is ss, Qd, Xd, (so.step s1).fo.refl, aok_pl (B := B) (B' := bsOf B.pl F1 H1) rfl ha, w1.2.2, fun v H' F' d q => ok v H' F' d (s1.trans q), fun cc dd H' F' x q => okx cc dd H' F' x (s1.trans q)⟩
  · rw [hks]
    refine wpAny_call (codeAny_mono (F.run X.A X.stack s2 H2 ⟨[], ks.zip ws⟩ (perm is ws) (perm is zs) Q (L2.WE W σ) hr I2.env0 (hb.to s2 ws I2.kIn (rz.length.symm.trans l2)) (vals_perm rz is) q2) fun r s' hq => ?_)
    cases r with
    | error er => exact L2N.passAt tk σ pins H2 s2 er s' I2 hq
    | ok fl =>
      cases fl with
      | ret u => exact I2.after hq
      | next => exact False.elim hq
      | brk => exact False.elim hq
      | cont => exact False.elim hq
end
/-! ### an own exception of two fields, raised -/
/-- what __init__(self, a, b): self.f = a; self.g = b leaves -/
def spIni (C : Addr) (f1 f2 : Str) : Sp := fun vs H Q _ => ∃ (a : Addr) (v1 v2 : V), vs = [.ref a, v1, v2] ∧ H a = some (exo a C none) ∧
  ∀ dx, H dx = none → dx ≠ a → Q .non (upd (upd (upd H dx (exd dx [(f1, v1)])) a (exo a C (some dx))) dx (exd dx [(f2, v2), (f1, v1)]))
section
variable {P : Program} {w : World} {K : PySem.W.Frag} {mg : Str → Option Value} {base : Heap}
theorem ini_ok {x qual : Str} {st : Stmt} {f C : Addr} {fd : FuncData} {N ps : List Str} {f1 f2 : Str} {CX : CXT} (T : OexC K C) (n1 : PySem.W.findIn K (.ref C) f1 = some none) (n2 : PySem.W.findIn K (.ref C) f2 = some none) (F : Fun K x qual st f fd) (S : FnScope N ps (defScope st)) (hn : ps.length = 3) (hN : N.length = 3)
    (hd : ∀ (cdv : Value) (A : Around) (outer : List Env) (s : Shared) (H : Hp) (E : XK), PSs (cxOf CX P w K mg base N qual (defScope st) f cdv A outer s H E) (defBody st) (tSeq (tOst K f1 (tVar 0) (tVar 1)) (tOst K f2 (tVar 0) (tVar 2)))) :
    FnOk P w K mg base CX 1 f fd ps (spIni C f1 f2) := by
  obtain ⟨oc, od, kV, doc, pm, an, cdv, ct, osl, rfl, lk, hcd⟩ := F.ex
  refine fn_of lk hcd S (fun vs H Q E h => by obtain ⟨a, v1, v2, rfl, _⟩ := h; rw [hn]; rfl) fun A outer s H vs Q E hr h => ?_
  obtain ⟨a, v1, v2, rfl, hH, q⟩ := h
  refine ⟨_, hd cdv A outer s H E, ?_⟩
  refine ⟨v1, rfl, .ref a, rfl, a, C, rfl, T, n1, .inl ⟨hH, fun dx hdx ne => ?_⟩⟩
  refine ⟨v2, rfl, .ref a, rfl, a, C, rfl, T, n2, .inr ⟨dx, [(f1, v1)], upd_same, ?_, (show 1 ≤ 900 by decide), q dx hdx ne⟩⟩
  rw [upd_ne ne, upd_same]
end
section
variable {X : Cx} {W : WX}
/-- C(a, b): the exception, its fields -/
def tMk2 (C : Addr) (f1 f2 : Str) (ta : TA) : List (Option V) → Hp → XK → Prop := fun σ H Q => ta σ H fun vs H1 => ∃ v1 v2, vs = [v1, v2] ∧ ∀ d, H1 d = none → Q (.ref C) (some d) (upd H1 d (.xd [(f2, v2), (f1, v1)]))
theorem pmk_two {CX : CXT} {x : Str} {C fI : Addr} {k : Nat} {fd : FuncData} {ps : List Str} {f1 f2 : Str} {e : Expr} {es : List Expr} {p pos : Pos} {ta : TA} (T : OexC X.K C) (hi : PySem.W.findIn X.K (.ref C) "__init__" = some (some (.ref fI))) (ti : PySem.W.typeIn X.K (.ref fI) = some (.type "function"))
    (F1 : FnOk X.prog X.w X.K X.mg X.base CX k fI fd ps (spIni C f1 f2)) (hr : Room (k + 1) X.A) (hb : Binds X.K fd ps []) (hx : Passes CX X (fun _ _ _ => False)) (hg : Gl X x) (hm : X.mg x = some (.ref C)) (ha : PA X (e :: es) ta)
    (hdb : (x == ("__debug__" : Str)) = false := by decide) (he : starEach (e :: es) X.env = (false, eval e X.env) :: starEach es X.env := by rfl) (hpl : (backTo pos (starEach es X.env)).any (·.1) = false := by rfl) :
    L2N.PMk X (.Call (.Name x p) (e :: es) [] pos) (tMk2 C f1 f2 ta) := by
  intro pins s σ H Q I h
  obtain ⟨nm, qn, ns, bs, mro, snm, sbc, abt, clc, ddc, j0, j1, j2, j3, j5, look, refs⟩ := T.cls
  refine wpAny_Call_Name_kw (ld_glob I hg hm (PySem.W.callWith_K (h₀ := X.base) I.ok.mod.kin T.kC (thn (ha.run pos pins s σ H _ I h) fun us s1 ⟨vs, H1, I1, r1, v1, v2, ev, q1⟩ => ⟨I1.kIn, ?_⟩) he hpl) hdb)
  subst ev
  show wpAny _ _ (call (.ref C) us) _ _ _
  obtain ⟨hp, gs, dr, tk, os⟩ := s1
  have le1 : hp.objs.size ≤ hp.objs.size + 1 := Nat.le_succ _
  have new : H1 (hp.objs.size + 1) = none := I1.hok.fresh le1
  have keep2 : ∀ b o, hp.get? b = some o → ((hp.push (PySem.W.kdv_tup us)).push (PySem.HandSPX.excO C hp.objs.size)).get? b = some o := fun b o z => Heap.get?_push_of_some _ (Heap.get?_push_of_some _ z)
  have get2 : ((hp.push (PySem.W.kdv_tup us)).push (PySem.HandSPX.excO C hp.objs.size)).get? (hp.objs.size + 1) = some (PySem.HandSPX.excO C hp.objs.size) := by heap_get
  have I2 : Inv X pins σ (upd H1 (hp.objs.size + 1) (exo (hp.objs.size + 1) C none)) ⟨(hp.push (PySem.W.kdv_tup us)).push (PySem.HandSPX.excO C hp.objs.size), gs, dr, tk, os⟩ :=
    I1.laid (t' := tk) (a := hp.objs.size + 1) (o := exo (hp.objs.size + 1) C none) (h' := (hp.push (PySem.W.kdv_tup us)).push (PySem.HandSPX.excO C hp.objs.size)) keep2 le1 (exo_ok get2)
  have rel2 : Vals (V.ref (hp.objs.size + 1) :: [v1, v2]) (Value.ref (hp.objs.size + 1) :: us) := .cons rfl r1
  have two : us.length = 2 := by rw [← r1.length]; rfl
  have z1000 : us.length ≤ sizeLine := by rw [two]; exact line_le (by decide)
  have want : spIni C f1 f2 [V.ref (hp.objs.size + 1), v1, v2] (upd H1 (hp.objs.size + 1) (exo (hp.objs.size + 1) C none))
      (fun v H2 => v = .non ∧ ∃ d, H1 d = none ∧ d ≠ hp.objs.size + 1 ∧ H2 = upd (upd (upd (upd H1 (hp.objs.size + 1) (exo (hp.objs.size + 1) C none)) d (exd d [(f1, v1)])) (hp.objs.size + 1) (exo (hp.objs.size + 1) C (some d))) d (exd d [(f2, v2), (f1, v1)])) (fun _ _ _ => False) :=
    ⟨hp.objs.size + 1, v1, v2, rfl, upd_same, fun dx hdx ne => ⟨rfl, dx, by rw [upd_ne ne] at hdx; exact hdx, ne, rfl⟩⟩
  have llen : (Value.ref (hp.objs.size + 1) :: us ++ []).length = ps.length := by
    have e1 := F1.len _ _ _ _ want
    rw [List.append_nil, List.length_cons, two, ← e1]
    rfl
  have bnd := hb ⟨(hp.push (PySem.W.kdv_tup us)).push (PySem.HandSPX.excO C hp.objs.size), gs, dr, tk, os⟩ (Value.ref (hp.objs.size + 1) :: us) I2.kIn llen
  rw [List.append_nil] at bnd
  refine wpAny_call (PySem.HandSPX.call_own F.excBase_ValueError (fun Y => PySem.HandSPX.refsVE_contains Y mro refs) (I1.kIn _ _ look) (PySem.W.looks_findIn I1.kIn hi) (fun self => PySem.W.bind_fn I1.kIn self ti) z1000
    (codeAny_mono (F1.run _ X.stack _ _ ⟨Value.ref (hp.objs.size + 1) :: us, []⟩ (Value.ref (hp.objs.size + 1) :: us) _ _ (fun _ _ _ => False) (hr.make C us []) (I2.env0.make C us []) bnd rel2 want) fun r s' hq => ?_))
  cases r with
  | error er => exact hx pins σ _ _ er s' I2 hq
  | ok fl =>
    cases fl with
    | next => exact False.elim hq
    | brk => exact False.elim hq
    | cont => exact False.elim hq
    | ret u =>
      obtain ⟨v, H2, os2, bare2, un2, hok2, rv, ev, d, nd, ned, eH⟩ := hq
      subst ev
      obtain ⟨h2, gs2, dr2, tk2, os'⟩ := s'
      refine ⟨rv, ?_⟩
      have ea : H2 (hp.objs.size + 1) = some (exo (hp.objs.size + 1) C (some d)) := by rw [eH, upd_ne ned.symm, upd_same]
      have ed : H2 d = some (exd d [(f2, v2), (f1, v1)]) := by rw [eH, upd_same]
      obtain ⟨t0, G, J, kG, ge, hoe, na⟩ := mk_end0 (d2 := dr2) (t2 := tk2) I1 le1 keep2 un2 hok2 os2 bare2 ea ed nd
      have eF : upd (del H2 (hp.objs.size + 1)) d (.xd [(f2, v2), (f1, v1)]) = upd H1 d (.xd [(f2, v2), (f1, v1)]) := by
        funext b
        by_cases hbd : b = d
        · rw [hbd, upd_same, upd_same]
        · rw [upd_ne hbd, upd_ne hbd]
          by_cases hba : b = hp.objs.size + 1
          · rw [hba, del_same, new]
          · rw [del_ne hba, eH, upd_ne hbd, upd_ne hba, upd_ne hbd, upd_ne hba]
      rw [eF] at J na
      exact ⟨_, _, _, ⟨G, gs2, dr2, tk2, os'⟩, _, .ref C, some d, rfl, J, kG, ge, hoe, ⟨rfl, rfl, fun vs z => by cases z; rfl⟩, rfl, rfl, na, rfl, bare2, raises_own T.exC T.tyC, q1 d nd⟩
def wRaise2 (C : Addr) (f1 f2 : Str) (wa : WA) : WS := fun Ed env => wa env (fun ss => match ss with
  | [.val d1, .val d2] => Ed.xc env ⟨C, [(f2, d2), (f1, d1)]⟩
  | _ => False) (Ed.xc env)
theorem psd_raise2 {C : Addr} {f1 f2 : Str} {e : Expr} {wa : WA} {pos : Pos} (hc : X.calm = true) (tk : L2N.Takes X W) (hm : L2N.PMk X e (tMk2 C f1 f2 (LA X.K W wa))) : PSd X W (.Raise (some e) none pos) (wRaise2 C f1 f2 wa) := by
  refine ps_imp (L2N.ps_raise hc tk hm) ?_
  rintro D σ H ⟨B, F, env, Ed, so, w, ok⟩
  refine ⟨B, F, env, _, _, so, w, fun vs H1 F1 ss s1 hv w1 => ?_, ok.okx so⟩
  try dsimp only at w1
  have so1 := so.step s1
  split at w1
  · rename_i d1 d2
    match vs, hv with
    | [v1, v2], hv =>
      refine ⟨v1, v2, rfl, fun d hd => ?_⟩
      exact ok.xc (.ref C) (some d) σ _ F1 env ⟨C, [(f2, d2), (f1, d1)]⟩ (so1.step (so1.fo.lay hd)) s1.f0 ⟨rfl, d, _, rfl, upd_same, rfl, .cons hv.2.1 (.cons hv.1 .nil)⟩ w1
    | [], hv => exact hv.elim
    | [_], hv => exact hv.2.elim
    | _ :: _ :: _ :: _, hv => exact hv.2.2.elim
  · exact w1.elim
/-! ### try: .., except C as n: .. -/
def wTry (C : Addr) (i : Nat) (wb : WS) (ws : Addr → Value → Option Addr → WS) : WS := fun Ed env => wb { Ed with xc := fun env' x => x.C = C ∧ ∀ a c dd, ws a c dd { nx := fun e => Ed.nx (e.set i .un), rt := Ed.rt, bk := fun e => Ed.bk (e.set i .un), ct := fun e => Ed.ct (e.set i .un), xc := fun _ _ => False } (env'.set i (.exc a c dd x)) } env
theorem SO.putX {K : PySem.W.Frag} {B : Bs} {H F : Hp} {σ : List (Option V)} {env : List Sl} (o : SO K B σ H F env) (i : Nat) {a : Addr} {c : Value} {dd : Option Addr} {x : XD} (h : XIs K F H c dd x) : SO K B (σ.set i (some (.ref a))) H F (env.set i (.exc a c dd x)) where
  fo := o.fo
  len := by rw [List.length_set, List.length_set]; exact o.len
  slots := fun j s hs => by
    rw [getset] at hs
    by_cases e : i = j
    · subst e
      rw [if_pos rfl] at hs
      by_cases hl : i < env.length
      · rw [if_pos hl] at hs
        cases hs
        refine ⟨?_, h⟩
        rw [getset, if_pos rfl, if_pos (by rw [← o.len]; exact hl)]
      · rw [if_neg hl] at hs; cases hs
    · rw [if_neg e] at hs
      rw [getset, if_neg e]
      exact o.slots j s hs
  apart := fun a b xs ys ad h1 h2 h3 h4 => by
    rw [getset] at h1 h2 h3 h4
    by_cases ea : i = a
    · subst ea
      rw [if_pos rfl] at h1
      split at h1 <;> cases h1
    · by_cases eb : i = b
      · subst eb
        rw [if_pos rfl] at h2
        split at h2 <;> cases h2
      · rw [if_neg ea] at h1 h3
        rw [if_neg eb] at h2 h4
        exact o.apart a b xs ys ad h1 h2 h3 h4
theorem psd_try {x n : Str} {C : Addr} {i : Nat} {body suite : List Stmt} {b₀ : Stmt} {np pos pos' : Pos} {wb : WS} {ws : Addr → Value → Option Addr → WS} (hs : X.stack = X.env :: X.outer) (hf : X.env.frame = some X.env.locals) (hN : X.N.Nodup) (hi : X.N[i]? = some n) (hln : X.env.kindOf n = some .local) (hc : Names X x (.ref C))
    (hex : PySem.W.exmOne X.K (.ref C) (.ref C) = some true)
    (hb : ∀ (W' : WX) (pn : List (Addr × Obj)) (xe : Value → Shared → Prop), L2N.Takes (X.tr pn xe) W' → PassesOwn (model X.prog X.w) X.A X.env xe → PSsd (X.tr pn xe) W' body wb)
    (hsu : ∀ (a : Addr) (oe : Obj) (cls : Value) (d : Option Addr) (pn : List (Addr × Obj)), L2N.Zn cls d oe → (∃ vs, oe.data = .fields vs) → PSsd (X.suite a ((a, oe) :: pn)) W0 (b₀ :: suite) (ws a cls d)) :
    PSd X W (.Try body [.ExceptHandler (some (.Name x np)) (some n) (b₀ :: suite) pos'] [] [] pos) (wTry C i wb ws) := by
  refine ps_imp (L2N.ps_try_as (tb := fun W' => LS X.K W' wb) (ts := fun a cls d => LS X.K W0 (ws a cls d)) (Wout := W0) hs hf hN hi hln hc takesN0 hb hsu) ?_
  rintro D σ H ⟨B, F, env, Ed, so, w, ok⟩
  refine ⟨B, F, env, _, so, w, ok.nx, ok.bk, ok.ct, ok.rt, fun c dd σ' H' F' env' xx so' ex' hx q => ?_⟩
  obtain ⟨ec, q⟩ := q
  have hx0 := hx
  obtain ⟨rfl, d, fs, rfl, hh, hf1, hf2⟩ := hx
  rw [ec]
  refine ⟨true, hex, fun _ a ha => ?_, fun z => Bool.noConfusion z⟩
  rw [ec] at hx0
  refine ⟨B, F', _, _, so'.putX i (a := a) hx0, q a _ _, fun σ2 H2 F2 env2 s2 e2 z => ok.nx _ _ _ _ (s2.drop i none) (ex'.trans e2) z, fun σ2 H2 F2 env2 s2 e2 z => ok.bk _ _ _ _ (s2.drop i none) (ex'.trans e2) z, fun σ2 H2 F2 env2 s2 e2 z => ok.ct _ _ _ _ (s2.drop i none) (ex'.trans e2) z, ok.rt, fun _ _ _ _ _ _ _ _ _ _ z => z.elim⟩
/-- n.f in the suite -/
def wXf (i : Nat) (a : Addr) (c : Value) (dd : Option Addr) (C : Addr) (f : Str) : WE := fun env Q _ => match slot env i with
  | .exc a' c' dd' x => a' = a ∧ c' = c ∧ dd' = dd ∧ x.C = C ∧ ∃ d, x.fs.lookup f = some d ∧ Q d
  | _ => False
theorem look_cons {β : Type} (f g : Str) (y : β) (fs : List (Str × β)) : List.lookup g ((f, y) :: fs) = if g = f then some y else fs.lookup g := by
  by_cases h : g = f
  · subst h
    simp [List.lookup]
  · have e : (g == f) = false := by simpa using h
    rw [if_neg h]
    simp [List.lookup, e]
theorem look_hs {K : PySem.W.Frag} {F : Hp} {f : Str} {d : PyData} : ∀ {fs : List (Str × V)} {ds : List (Str × PyData)}, fs.map (·.1) = ds.map (·.1) → HsA K F (fs.map (·.2)) (ds.map (·.2)) → ds.lookup f = some d → ∃ v, fs.lookup f = some v ∧ Hs K F v d
  | [], [], _, _, e => by cases e
  | (g, v) :: fs, (g', d') :: ds, hn, hd, e => by
    simp only [List.map_cons, List.cons.injEq] at hn
    obtain ⟨hg, hn⟩ := hn
    subst hg
    cases hd with
    | cons h1 h2 =>
      rw [look_cons] at e ⊢
      by_cases q : f = g
      · rw [if_pos q] at e ⊢
        cases e
        exact ⟨v, rfl, h1⟩
      · rw [if_neg q] at e ⊢
        exact look_hs hn h2 e
  | [], _ :: _, hn, _, _ => by cases hn
  | _ :: _, [], hn, _, _ => by cases hn
theorem pd_xf (i : Nat) {x n : Str} {a C : Addr} {oe : Obj} {cls : Value} {d : Option Addr} {pn : List (Addr × Obj)} {pos p : Pos} (T : XfC X.K C) (hno : PySem.W.findIn X.K (.ref C) n = some none) (hz : L2N.Zn cls d oe) (hf : ∃ vs, oe.data = .fields vs)
    (hv : PE (X.suite a ((a, oe) :: pn)) (.Name x p) (tVar i)) (hb : attributeBase (.Name x p) n X.env (eval (.Name x p) X.env) = eval (.Name x p) X.env := by rfl) : PD (X.suite a ((a, oe) :: pn)) W (.Attribute (.Name x p) n pos) (wXf i a cls d C n) := by
  refine pe_imp (pe_xf T hno hz.zc hf hv hb) ?_
  rintro σ H Q ⟨B, F, env, Qd, Xd, so, w, ok, okx⟩
  unfold wXf at w
  split at w
  · rename_i a' c' dd' xx hs
    obtain ⟨rfl, rfl, rfl, eC, dx, hl, q⟩ := w
    obtain ⟨e, ec, d0, fs, ed, hh, hn, ha⟩ := so.slots i _ (slot_some hs (by simp))
    obtain ⟨v, hlv, hvd⟩ := look_hs hn ha hl
    exact ⟨_, e, rfl, by rw [ec, eC], d0, fs, v, ed, hh, hlv, ok v H F dx so.fo.refl hvd q⟩
  · exact w.elim
/-- a def called within an except suite -/
theorem pd_callH {e : Expr} {es : List Expr} {pos p : Pos} {x : Str} {f : Addr} {fd : FuncData} {ps : List Str} {n k : Nat} {c : Ct} {wa : WA} (hc : L2H.HotC X) (F : L2H.FnH X.prog X.w X.K X.mg X.base (L2N.CX X.prog X.w) k f fd ps (spC X.K n c)) (hr : L2H.RoomH k X.A) (tk : L2N.Takes X W)
    (hg : Gl X x) (hm : X.mg x = some (.ref f)) (hk : PySem.W.keepIn X.K (.ref f) = true) (hb : Binds X.K fd ps []) (ha : PAd X W (e :: es) wa)
    (hdb : (x == ("__debug__" : Str)) = false := by decide) (he : starEach (e :: es) X.env = (false, eval e X.env) :: starEach es X.env := by rfl) (hpl : (backTo pos (starEach es X.env)).any (·.1) = false := by rfl) :
    PD X W (.Call (.Name x p) (e :: es) [] pos) (wCall n c wa) :=
  pe_imp (L2H.pe_callH F hr hc hg hm hk hb (fun σ => L2N.passAt tk σ) ha hdb he hpl) le_call
theorem hot_suite {a : Addr} {oe : Obj} {cls : Value} {d : Option Addr} {pn : List (Addr × Obj)} (hz : L2N.Zn cls d oe) (hf : ∃ vs, oe.data = .fields vs) : L2H.HotC (X.suite a ((a, oe) :: pn)) := by
  obtain ⟨vs, e⟩ := hf
  exact ⟨(a, oe), ⟨rfl, vs, e, hz.2.2 vs e⟩, List.mem_cons_self⟩
theorem roomH_suite {a : Addr} {k : Nat} {pn : List (Addr × Obj)} (h : Room k X.A) : L2H.RoomH k (X.suite a pn).A := ⟨h.dp, h.un⟩
end
section
variable {P : Program} {w : World} {K : PySem.W.Frag} {mg : Str → Option Value} {base : Heap}
theorem fn_okH {x qual : Str} {st : Stmt} {f : Addr} {fd : FuncData} {N ps : List Str} {k n : Nat} {c : Ct} {wb : WS} (F : Fun K x qual st f fd) (S : FnScope N ps (defScope st)) (hn : ps.length = n)
    (hd : ∀ (cdv : Value) (A : Around) (outer : List Env) (s : Shared) (H : Hp) (E : XK) (p : Addr × Obj), L2H.RoomH k (L2H.cxH (L2N.CX P w) P w K mg base N qual (defScope st) f cdv A outer s H E p).A → L2N.Takes (L2H.cxH (L2N.CX P w) P w K mg base N qual (defScope st) f cdv A outer s H E p) (fun cls d _ H => E cls d H) →
      PSsd (L2H.cxH (L2N.CX P w) P w K mg base N qual (defScope st) f cdv A outer s H E p) (fun cls d _ H => E cls d H) (defBody st) wb) (hw : ∀ ss Qd Xd, c ss Qd Xd → wb (endsOf Qd Xd) (startE N.length ss)) :
    L2H.FnH P w K mg base (L2N.CX P w) (k + 1) f fd ps (spC K n c) := by
  obtain ⟨oc, od, kV, doc, pm, an, cdv, ct, osl, rfl, lk, hcd⟩ := F.ex
  refine L2H.fn_ofH lk hcd S (fun vs H Q E h => by rw [h.1, hn]) fun A outer s H vs Q E p hot hr h => ?_
  obtain ⟨hl, pl, F0, ss, Qd, Xd, fo, ha, hc, hq, hx⟩ := h
  refine ⟨_, hd cdv A outer s H E p hr (L2N.takes_of rfl rfl rfl rfl), ?_⟩
  refine ⟨bsOf pl F0 H, F0, startE N.length ss, endsOf Qd Xd, so_start fo ha, hw ss Qd Xd hc, ?_⟩
  exact ⟨fun σ' H' F' env' so _ q => hq .non H' F' .none so.fo .non q, fun _ _ _ _ _ _ z => z.elim, fun _ _ _ _ _ _ z => z.elim, hq, fun cc dd σ' H' F' env' x so _ hx' q => hx cc dd H' F' x so.fo hx' q⟩
end
end Hw
-- HwG
set_option Elab.async false
set_option linter.all false
set_option maxRecDepth 100000
set_option maxHeartbeats 2000000
namespace Hw
open PySem L2
/-! ### the law's own draws -/
/-- what a draw promises -/
def cTake : Ct := fun ss Q _ => ∃ m : Int, ss = [.pool, .val (.int m)] ∧ 0 < m ∧ m < 1073741824 ∧ ∀ r : Int, 0 ≤ r → r < m → Q (.int r)
def spTk : Sp := fun vs H Q _ => ∃ (p l : Addr) (a b c n m : Int) (xs : List Int), vs = [.ref p, .int m] ∧ 0 < m ∧ m < 1073741824 ∧ p ≠ l ∧ H p = some (.lst [.ref l, .int a, .int b, .int c, .int n]) ∧ H l = some (.lst (xs.map V.int)) ∧
  ∀ (a' b' : Int) (xs' : List Int) (r : Int) (H' : Hp), 0 ≤ r → r < m → H' p = some (.lst [.ref l, .int a', .int b', .int c, .int n]) → H' l = some (.lst (xs'.map V.int)) → (∀ d o, d ≠ p → d ≠ l → H d = some o → H' d = some o) → Q (.int r) H'
theorem take_imp {K : PySem.W.Frag} (vs : List V) (H : Hp) (Q : VK) (E : XK) (h : spC K 2 cTake vs H Q E) : spTk vs H Q E := by
  obtain ⟨hl, pl, F, ss, Qd, Xd, fo, ha, ⟨m, rfl, h0, h1, hq⟩, ok, _⟩ := h
  match vs, hl, ha with
  | [v1, v2], _, ⟨⟨p, l, e, e1⟩, ⟨hv2, _⟩⟩ =>
    obtain ⟨⟨f1, f2, ne, a, b, c, n, xs, g1, g2⟩, m1, m2⟩ := fo.pool p l e
    refine ⟨p, l, a, b, c, n, m, xs, by rw [e1, dp_int hv2], h0, h1, ne, g1, g2, fun a' b' xs' r H' r0 r1 k1 k2 k3 => ?_⟩
    have e0 : pl = some (p, l) := e
    have mem : p ∈ (bsOf pl F H).M ∧ l ∈ (bsOf pl F H).M := by
      subst e0
      exact ⟨by simp [bsOf, plM], by simp [bsOf, plM]⟩
    refine ok (.int r) H' F (.int r) ⟨fun b' x h => ?_, Evl.Ex.refl _, fun a h' x => .inl x, fun b' x h hm => ?_, fun b' h => ?_, fun p' l' e' => ?_⟩ (.int r) (hq r r0 r1)
    · exact k3 b' x (ne_of_none h f1) (ne_of_none h f2) (fo.fh _ _ h)
    · exact k3 b' x (fun z => hm (z ▸ mem.1)) (fun z => hm (z ▸ mem.2)) h
    · show H b' = none
      cases q : H b' with
      | none => rfl
      | some o =>
        by_cases n1 : b' = p
        · rw [n1, k1] at h; cases h
        · by_cases n2 : b' = l
          · rw [n2, k2] at h; cases h
          · rw [k3 b' o n1 n2 q] at h; cases h
    · have e' : pl = some (p', l') := e'
      rw [e0] at e'
      cases e'
      exact ⟨⟨f1, f2, ne, a', b', c, n, xs', k1, k2⟩, .inl mem.1, .inl mem.2⟩
/-- some int comes back -/
def cInt2 : Ct := fun ss Q _ => ∃ a b : Int, ss = [.val (.int a), .val (.int b)] ∧ ∀ r : Int, Q (.int r)
theorem call_int2 {K : PySem.W.Frag} {a b : Int} {H : Hp} {Q : VK} {E : XK} (h : ∀ (r : Int) (H' : Hp), (∀ d o, H d = some o → H' d = some o) → Q (.int r) H') : spC K 2 cInt2 [.int a, .int b] H Q E := by
  have fo : FO (bsOf none (fun _ => none) H) H (fun _ => none) := {
    fh := fun a o z => by cases z
    f0 := Evl.Ex.refl _
    fresh := fun a o z => by cases z
    keep := fun _ _ z _ => z
    dom := fun _ z => z
    pool := fun p l z => by cases z }
  refine ⟨rfl, none, fun _ => none, [.val (.int a), .val (.int b)], fun d => ∃ r : Int, d = .int r, fun _ => False, fo, ⟨.int a, .int b, trivial⟩, ⟨a, b, rfl, fun r => ⟨r, rfl⟩⟩, fun v H' F' d fo hv hd => ?_, fun _ _ _ _ _ _ _ z => z.elim⟩
  obtain ⟨r, e⟩ := hd
  subst e
  rw [dp_int hv]
  exact h r H' fun d o z => fo.keep d o z (by simp [bsOf, plM])
def spInt2 : Sp := fun vs H Q _ => ∃ a b : Int, vs = [.int a, .int b] ∧ ∀ r : Int, Q (.int r) H
def spPool (K : PySem.W.Frag) : Sp := fun vs H Q _ => ∃ (a : Addr) (ns : List Int), vs = [.ref a] ∧ SqL K H a (ns.map V.int) ∧ ∀ (p l : Addr) (seed n : Int), H l = none → H p = none → p ≠ l → Q (.ref p) (upd (upd H l (.lst (ns.map V.int))) p (.lst [.ref l, .int 0, .int 0, .int seed, .int n]))

/-- name = [.. for ..] on one line -/
theorem psd_lcC {X : Cx} {W : WX} {st : Stmt} {i : Nat} {wi : WI} {g : TG} {js : List Nat} {wb : PyData → Option (List PyData)} {wt : WT} {we : WE} {vs : List Nat} (h : PS X st (tAsg (tLc (LI X.K W wi) g (LT X.K W0 wt) (LE X.K W0 we) vs) (gName i))) (hg : Bnd X.K g js wb) (hjs : ∀ j ∈ js, j ∈ vs) :
    PSd X W st (wAsgC i (wLc wi js wb wt we vs)) := by
  refine ps_imp h ?_
  rintro D σ H ⟨B, F, env, Ed, so, w, ok⟩
  refine lf_lc hg hjs σ H _ ⟨B, F, env, _, _, so, w, fun a vs H1 F1 ds s1 hf1 ha hh hd q => ?_, ok.okx so⟩
  refine ok.nx _ H1 F1 _ ((so.step s1).putC i hf1 (so.fo.dom a ha) hh hd (fun p l e => ?_) (fun j xs hj hs' => ?_)) s1.f0 q
  · obtain ⟨⟨_, _, _, a0, b0, c0, n0, xs0, g1, g2⟩, _⟩ := so.fo.pool p l e
    exact ⟨(ne_of_none g1 ha).symm, (ne_of_none g2 ha).symm⟩
  · obtain ⟨a', vs', e, _, _, hh', _⟩ := so.slots j _ hj
    rw [hs'] at e
    cases e
    rw [ha] at hh'
    cases hh'
theorem psd_lcV {X : Cx} {W : WX} {st : Stmt} {i : Nat} {wi : WI} {g : TG} {js : List Nat} {wb : PyData → Option (List PyData)} {wt : WT} {we : WE} {vs : List Nat} (h : PS X st (tAsg (tLc (LI X.K W wi) g (LT X.K W0 wt) (LE X.K W0 we) vs) (gName i))) (hg : Bnd X.K g js wb) (hjs : ∀ j ∈ js, j ∈ vs) :
    PSd X W st (wAsg i (wLc wi js wb wt we vs)) := by
  refine ps_imp h ?_
  rintro D σ H ⟨B, F, env, Ed, so, w, ok⟩
  refine lf_lc hg hjs σ H _ (lf_le σ H _ ⟨B, F, env, _, _, so, w, fun v H1 F1 d s1 hv q => ok.nx _ H1 F1 _ ((so.step s1).put i hv) s1.f0 q, ok.okx so⟩)
/-- a def of the text, callable by its promise -/
structure Cl (P : Program) (w : World) (K : PySem.W.Frag) (mg : Str → Option Value) (base : Heap) (k : Nat) (x : Str) (st : Stmt) (ps : List Str) (n : Nat) (c : Ct) (a : Addr) (fd : FuncData) : Prop where
  F : FnOk P w K mg base (L2N.CX P w) k a fd ps (spC K n c)
  m : mg x = some (.ref a)
  kp : PySem.W.keepIn K (.ref a) = true
  b : Binds K fd ps []
  fn : Fun K x x st a fd
/-- .. by a promise of another form -/
structure ClS (P : Program) (w : World) (K : PySem.W.Frag) (mg : Str → Option Value) (base : Heap) (k : Nat) (x : Str) (st : Stmt) (ps : List Str) (sp : Sp) (a : Addr) (fd : FuncData) : Prop where
  F : FnOk P w K mg base (L2N.CX P w) k a fd ps sp
  m : mg x = some (.ref a)
  kp : PySem.W.keepIn K (.ref a) = true
  b : Binds K fd ps []
theorem passN {X : Cx} : Passes (L2N.CX X.prog X.w) X E0 := fun _ _ _ _ _ _ _ h => by
  obtain ⟨_, _, _, _, _, _, _, _, _, _, _, _, z⟩ := h
  exact z.elim
/-- the class of the refusals: C, its __init__ fI -/
structure Tx0 (K : PySem.W.Frag) (mg : Str → Option Value) (C fI : Addr) (fdI : FuncData) : Prop where
  oex : OexC K C
  hi : PySem.W.findIn K (.ref C) "__init__" = some (some (.ref fI))
  ti : PySem.W.typeIn K (.ref fI) = some (.type "function")
  ini : ∀ (P : Program) (w : World) (base : Heap), FnOk P w K mg base (L2N.CX P w) 1 fI fdI ["self", "word", "at"] (spIni C "word" "at")
  bi : Binds K fdI ["self", "word", "at"] []
  m_C : mg "NotUsable" = some (.ref C)
  exm : PySem.W.exmOne K (.ref C) (.ref C) = some true
  xf : XfC K C
  no_word : PySem.W.findIn K (.ref C) "word" = some none
  no_at : PySem.W.findIn K (.ref C) "at" = some none
end Hw
-- HwH
set_option Elab.async false
set_option linter.all false
set_option maxRecDepth 100000
set_option maxHeartbeats 2000000
namespace Hw
open PySem L2
section
variable {X : Cx} {W : WX} {a b c e : Expr} {wa wb wc we : WE} {pos p : Pos}
/-! ### a < b < c -/
def wChain (f g : PyData → PyData → DQ → Prop) (a b c : WE) : WE := fun env Q X => a env (fun x => b env (fun y => f x y fun z => match z with
  | .bool k => (k = true → c env (fun u => g y u Q) X) ∧ (k = false → Q (.bool false))
  | _ => False) X) X
theorem pd_chain {op op' : CmpOp} {r r' : R2} {f g : PyData → PyData → DQ → Prop} (ho : OpR X (compareOp op) r) (ho' : OpR X (compareOp op') r') (hr : OpD X.K r f) (hr' : OpD X.K r' g) (ha : PD X W a wa) (hb : PD X W b wb) (hc : PD X W c wc)
    (hm : lastMarks [op, op'] [b, c] = false := by with_unfolding_all rfl) : PD X W (.Compare a [op, op'] [b, c] pos) (wChain f g wa wb wc) := by
  refine pe_imp (pe_chain ho ho' ha hb hc hm) ?_
  rintro σ H Q ⟨B, F, env, Qd, Xd, so, w, ok, okx⟩
  refine ⟨B, F, env, _, Xd, so, w, fun x H1 F1 dx s1 hx w1 => ?_, okx⟩
  have so1 := so.step s1
  refine ⟨B, F1, env, _, Xd, so1, w1, fun y H2 F2 dy s2 hy w2 => ?_, okx.step s1⟩
  have so2 := so1.step s2
  have hx2 := dpm s2.f0 dx x hx
  refine hr (stp B F2 H2) H2 F2 x y dx dy _ _ so2.fo.refl hx2 hy w2 fun z H3 F3 dz s3 hz w3 => ?_
  have s3' : FO (stp B F2 H2) H3 F3 := so2.fo.refl.step s3
  try dsimp only at w3
  split at w3
  · rename_i k
    refine ⟨k, dp_bl hz, ?_⟩
    cases k with
    | true =>
      rw [if_pos rfl]
      refine ⟨B, F3, env, _, Xd, so2.step s3', w3.1 rfl, fun u H4 F4 du s4 hu w4 => ?_, (okx.step s1).step s2 |>.step s3'⟩
      have st : FO (stp B F H) H4 F4 := ((s1.trans s2).trans s3').trans s4
      refine hr' (stp B F4 H4) H4 F4 y u dy du _ _ ((so2.step s3').step s4).fo.refl (dpm ((s3'.f0).trans s4.f0) dy y hy) hu w4 fun v H5 F5 dv s5 hv w5 => ok v H5 F5 dv (st.trans (((so2.step s3').step s4).fo.refl.step s5)) hv w5
    | false =>
      rw [if_neg (by decide)]
      exact ok _ H3 F3 _ ((s1.trans s2).trans s3') (.bl _) (w3.2 rfl)
  · exact w3.elim
end
/-! ### isinstance(n, c) in an except suite, n the exception that it holds -/
structure XcC (K : PySem.W.Frag) (D : Addr) : Prop where
  hcl : (PySem.W.clsIn K D).isSome = true
  hg : PySem.W.findIn K (.ref D) "__getattribute__" = some (some (.builtin "BaseException.__getattribute__"))
  hk : PySem.W.findIn K (.ref D) "__getattr__" = some none
  hs : PySem.W.subIn K (.ref D) (.type "BaseException") = some true
  ha : PySem.W.findIn K (.ref D) "__class__" = some (some (.builtin "object.__class__"))
  hn : PySem.W.specialIn K (.builtin "object.__class__") "__get__" = some (some (.builtin "getset_descriptor.__get__"))
  ht : PySem.W.takesIn K (.builtin "object.__class__") = some true
  hm : PySem.W.mroIn K D (.type "object") = some true
def rIsX (K : PySem.W.Frag) (D a dd : Addr) : List V → Hp → VK → Prop := fun xs H Q => ∃ (c : V) (cv : Value) (b : Bool), xs = [.ref a, c] ∧ (∀ u, RelV c u → u = cv) ∧ PySem.W.kitOne K (.ref D) cv = some b ∧ (∃ fs, H dd = some (.xd fs)) ∧ Q (.bl b) H
theorem call_isX {X : Cx} {a D dd : Addr} {oe : Obj} (C : XcC X.K D) (hz : Zc (.ref D) (some dd) oe) (hf : ∃ vs, oe.data = .fields vs) (hp : (a, oe) ∈ X.pn) : CallR X (.builtin "isinstance") (rIsX X.K D a dd) := by
  intro pins s σ H xs us Q I r h
  obtain ⟨c, cv, b, rfl, hcv, e, ⟨fs, hfs⟩, q⟩ := h
  cases r with
  | cons rx rr =>
    cases rr with
    | cons rt rr =>
      cases rr
      cases rx
      have ec := hcv _ rt
      subst ec
      obtain ⟨hget, _⟩ := I.pin (a, oe) (List.mem_append.mpr (.inl hp))
      obtain ⟨vs, hv⟩ := hf
      have hx : ObjOk X.prog X.w H s.heap dd (.xd fs) := I.hok dd _ hfs
      obtain ⟨mA, ⟨od, es, ep, ho, _⟩, _⟩ := hx
      have J : PySem.W.InstAt s.heap a oe D (some od) := ⟨hget, hz.1, by unfold PySem.W.notCls; rw [hv] <;> rfl, by rw [hz.2]; exact ho⟩
      exact PySem.W.kia_one (PySem.W.kitx_exc C.hcl C.hg C.hk C.hs C.ha C.hn C.ht C.hm) I.kIn J e (fun z => nomatch z) fun tk => ⟨.bl b, H, I.kept (t' := tk) fun _ _ z => z, rfl, q⟩
section
variable {X : Cx} {W : WX} {pos p pe' p2 : Pos}
/-- isinstance(n, c): b, the same for every instance of D -/
def wIsx (i : Nat) (a : Addr) (cl : Value) (d : Option Addr) (D : Addr) (b : Bool) : WE := fun env Q _ => match slot env i with
  | .exc a' c' dd' x => a' = a ∧ c' = cl ∧ dd' = d ∧ x.C = D ∧ Q (.bool b)
  | _ => False
theorem pd_isx (i : Nat) {x : Str} {a D : Addr} {oe : Obj} {cls : Value} {d : Option Addr} {e2 : Expr} {c : V} {cv : Value} {b : Bool} (T : XcC X.K D) (hz : L2N.Zn cls d oe) (hf : ∃ vs, oe.data = .fields vs) (hp : (a, oe) ∈ X.pn)
    (hcv : ∀ u, RelV c u → u = cv) (hk : PySem.W.kitOne X.K (.ref D) cv = some b) (hg : Gl X "isinstance") (hm : X.mg "isinstance" = none) (hv : PE X (.Name x p2) (tVar i)) (hT : PE X e2 (tC c))
    (hs : starEach [.Name x p2, e2] X.env = (false, eval (.Name x p2) X.env) :: starEach [e2] X.env := by rfl) (hs2 : starEach [e2] X.env = (false, eval e2 X.env) :: starEach [] X.env := by rfl) (hpl : (backTo pos (starEach [e2] X.env)).any (·.1) = false := by rfl) :
    PD X W (.Call (.Name "isinstance" p) [.Name x p2, e2] [] pos) (wIsx i a cls d D b) := by
  by_cases hc : cls = .ref D
  · cases d with
    | some dd =>
      subst hc
      refine pe_imp (pe_callB (call_isX T hz.zc hf hp (dd := dd)) hg hm (by decide +kernel) (pa_cons hv (pa_cons hT pa_nil hs2) hs) (by decide) (by decide) hs hpl) ?_
      rintro σ H Q ⟨B, F, env, Qd, Xd, so, w, ok, okx⟩
      unfold wIsx at w
      split at w
      · rename_i a' c' dd' xx hsl
        obtain ⟨rfl, rfl, ed, eC, q⟩ := w
        obtain ⟨e, ec, d0, fs, ed0, hh, hn, ha⟩ := so.slots i _ (slot_some hsl (by simp))
        have : d0 = dd := by rw [ed] at ed0; exact (Option.some.inj ed0).symm
        subst this
        exact ⟨_, e, c, cv, b, rfl, hcv, hk, ⟨fs, hh⟩, ok _ H F _ so.fo.refl (.bl _) q⟩
      · exact w.elim
    | none =>
      refine ⟨fun pins s σ H Q I h => ?_⟩
      obtain ⟨B, F, env, Qd, Xd, so, w, ok, okx⟩ := h
      unfold wIsx at w
      split at w
      · rename_i a' c' dd' xx hsl
        obtain ⟨rfl, rfl, ed, eC, q⟩ := w
        obtain ⟨e, ec, d0, fs, ed0, hh, hn, ha⟩ := so.slots i _ (slot_some hsl (by simp))
        rw [ed] at ed0
        cases ed0
      · exact w.elim
  · refine ⟨fun pins s σ H Q I h => ?_⟩
    obtain ⟨B, F, env, Qd, Xd, so, w, ok, okx⟩ := h
    unfold wIsx at w
    split at w
    · rename_i a' c' dd' xx hsl
      obtain ⟨rfl, rfl, ed, eC, q⟩ := w
      obtain ⟨e, ec, _⟩ := so.slots i _ (slot_some hsl (by simp))
      exact (hc (by rw [ec, eC])).elim
    · exact w.elim
end
end Hw
-- HwI
set_option Elab.async false
set_option linter.all false
set_option maxRecDepth 100000
set_option maxHeartbeats 2000000
namespace Hw
open PySem L2 PySem.Spec PyProof.Rows HotX
/-! ### defs that are handed the exception that is handled -/
/-- as L2H.FnH, the promise knowing the exception's object -/
structure FnX (P : Program) (w : World) (K : PySem.W.Frag) (mg : Str → Option Value) (base : Heap) (CX : CXT) (k : Nat) (f : Addr) (fd : FuncData) (ps : List Str) (sp : Addr × Obj → Sp) : Prop where
  len : ∀ p vs H Q E, sp p vs H Q E → vs.length = ps.length
  run : ∀ (p : Addr × Obj) (A : Around) (outer : List Env) (s : Shared) (H : Hp) (args : Args) (us : List Value) (vs : List V) (Q : VK) (E : XK), L2H.RoomH k A → L2H.Hot1 A p → L2H.PinOk outer H s p → Env0 P w K mg base A outer s H → BindsTo s fd args (ps.zip us) →
    Vals vs us → sp p vs H Q E → codeAny (model P w) A (.call (.ref f) args) (CR CX outer P w H s Q E) s
theorem fn_ofX {CX : CXT} {P : Program} {w : World} {K : PySem.W.Frag} {mg : Str → Option Value} {base : Heap} {k : Nat} {f : Addr} {name qual : Str} {params : Arguments} {body : List Stmt} {scope : Scope} {dV kV doc pm cdv ct oc : Value} {an od : Option Addr}
    {osl : Array (Option Value)} {N ps : List Str} {sp : Addr × Obj → Sp} (lk : K.lookup f = some ⟨oc, od, .func (PySem.W.fnOf name qual params body scope dV kV doc pm an cdv ct), osl⟩) (hcd : PySem.W.codeIn K cdv qual = true) (S : FnScope N ps scope)
    (len : ∀ p vs H Q E, sp p vs H Q E → vs.length = ps.length)
    (hbody : ∀ (p : Addr × Obj) (A : Around) (outer : List Env) (s : Shared) (H : Hp) (vs : List V) (Q : VK) (E : XK), L2H.Hot1 A p → L2H.RoomH k (A.deeper (envOfC qual scope s.heap.objs.size f cdv)) → sp p vs H Q E →
      ∃ t, PSs (L2H.cxH CX P w K mg base N qual scope f cdv A outer s H E p) body t ∧ t { nx := fun _ H' => Q .non H', rt := Q } (L2.start N vs) H) :
    FnX P w K mg base CX (k + 1) f (PySem.W.fnOf name qual params body scope dV kV doc pm an cdv ct) ps sp := by
  refine ⟨len, ?_⟩
  intro p A outer s H args us vs Q E room hot pin en bd rel want
  have size := len p _ _ _ _ want
  have kin : K.In s.heap := en.mod.kin.keeps fun i u z => (en.bs i u z).1
  have free : s.heap.NoLimit := en.mod.nolimit.keeps fun i u z => (en.bs i u z).1
  have kinds : ∀ y ∈ ps.zip us, scope.names.lookup y.1 = some .local ∨ (scope.names.lookup y.1 = some .cell ∧ ((cellsFrom (s.heap.objs.size + 1) scope.names []).lookup y.1).isSome = true) := by
    rintro ⟨n, v⟩ hy
    rcases S.par n (List.of_mem_zip hy).1 with q | q
    · exact .inl q
    · exact .inr ⟨q, PySem.W.cellsFrom_some _ _ _ (.inl q)⟩
  refine codeAny_call_function room.depth (kin _ _ lk) rfl S.co S.gen rfl (PySem.W.codeRec_of kin hcd) (bd _ _ _ _ ?_)
  refine wpAny_newFunctionEnv_cells S.kind kinds fun env eqn s1 made => ?_
  subst eqn
  refine ⟨free.keeps made.toInCall.keep, codeAny_func ?_⟩
  obtain ⟨t, ht, hq⟩ := hbody p A outer s H vs Q E hot (room.deeper _) want
  have J0 : Inv (L2H.cxH CX P w K mg base N qual scope f cdv A outer s H E p) [] (L2.start N vs) H s1 := L2H.inv_startH S pin en size rel made
  refine wpAny_mono (ht.run [] s1 (L2.start N vs) H _ J0 hq) (fun fl s' hs => ?_) fun e s' hs => hs
  cases fl with
  | ret u =>
    obtain ⟨v, σ', H', J, rv, q⟩ := hs
    exact ⟨v, H', J.os, J.bare, J.base, J.hok, rv, q⟩
  | next =>
    obtain ⟨σ', H', J, q⟩ := hs
    exact ⟨V.non, H', J.os, J.bare, J.base, J.hok, (show RelV V.non Value.none from rfl), q⟩
  | brk => obtain ⟨_, _, _, q⟩ := hs; exact q.elim
  | cont => obtain ⟨_, _, _, q⟩ := hs; exact q.elim
/-- c(x): of the exception handed in -/
def spCX (K : PySem.W.Frag) (c : XD → DQ → Prop) (p : Addr × Obj) : Sp := fun vs H Q _ => ∃ (pl : Option (Addr × Addr)) (F : Hp) (d : Addr) (x : XD) (Qd : DQ), vs = [.ref p.1] ∧ FO (bsOf pl F H) H F ∧ L2N.Zn (.ref x.C) (some d) p.2 ∧ (∃ vs, p.2.data = .fields vs) ∧
  XIs K F H (.ref x.C) (some d) x ∧ c x Qd ∧ OkV K (bsOf pl F H) F H Qd Q
section
variable {P : Program} {w : World} {K : PySem.W.Frag} {mg : Str → Option Value} {base : Heap}
theorem fn_okX {x qual : Str} {st : Stmt} {f : Addr} {fd : FuncData} {N : List Str} {y : Str} {k : Nat} {c : XD → DQ → Prop} {C : Addr} {wb : (Addr → Option Addr → WS)} (hC : ∀ x Q, c x Q → x.C = C) (F : Fun K x qual st f fd) (S : FnScope N [y] (defScope st))
    (hd : ∀ (cdv : Value) (A : Around) (outer : List Env) (s : Shared) (H : Hp) (E : XK) (p : Addr × Obj) (d : Option Addr), L2N.Zn (.ref C) d p.2 → (∃ vs, p.2.data = .fields vs) → L2H.RoomH k (L2H.cxH (L2N.CX P w) P w K mg base N qual (defScope st) f cdv A outer s H E p).A →
      PSsd (L2H.cxH (L2N.CX P w) P w K mg base N qual (defScope st) f cdv A outer s H E p) (fun cls d _ H => E cls d H) (defBody st) (wb p.1 d)) (hw : ∀ (a : Addr) (d : Option Addr) (x : XD) (Qd : DQ), c x Qd → wb a d (endsOf Qd (fun _ => False)) (.exc a (.ref C) d x :: List.replicate (N.length - 1) .un)) :
    FnX P w K mg base (L2N.CX P w) (k + 1) f fd [y] (spCX K c) := by
  obtain ⟨oc, od, kV, doc, pm, an, cdv, ct, osl, rfl, lk, hcd⟩ := F.ex
  refine fn_ofX lk hcd S (fun p vs H Q E h => by obtain ⟨_, _, _, _, _, rfl, _⟩ := h; rfl) fun p A outer s H vs Q E hot hr h => ?_
  obtain ⟨pl, F0, d, x, Qd, rfl, fo, hz, hf, hx, hc, hq⟩ := h
  have eC := hC x Qd hc
  rw [eC] at hz hx
  refine ⟨_, hd cdv A outer s H E p (some d) hz hf hr, ?_⟩
  refine ⟨bsOf pl F0 H, F0, _, endsOf Qd (fun _ => False), ?_, hw p.1 (some d) x Qd hc, ?_⟩
  · have hN : 0 < N.length := by
      have e := congrArg List.length S.pre
      rw [List.length_take] at e
      have : ([y] : List Str).length = 1 := rfl
      omega
    refine ⟨fo, ?_, ?_, ?_⟩
    · unfold L2.start
      simp
    · intro i sl hs
      match i, hs with
      | 0, e =>
        cases e
        exact ⟨by unfold L2.start; rfl, hx⟩
      | i + 1, e =>
        rw [List.getElem?_cons_succ, List.getElem?_replicate] at e
        split at e
        · cases e; exact True.intro
        · cases e
    · intro i j xs ys ad h1
      match i, h1 with
      | 0, e => cases e
      | i + 1, e =>
        rw [List.getElem?_cons_succ, List.getElem?_replicate] at e
        split at e <;> cases e
  · exact ⟨fun σ' H' F' env' so _ q => hq .non H' F' .none so.fo .non q, fun _ _ _ _ _ _ z => z.elim, fun _ _ _ _ _ _ z => z.elim, hq, fun cc dd σ' H' F' env' x so _ hx' q => q.elim⟩
end
section
variable {X : Cx} {W : WX}
def wCallX (i : Nat) (a : Addr) (cl : Value) (d : Option Addr) (c : XD → DQ → Prop) : WE := fun env Q _ => match slot env i with
  | .exc a' c' d' x => a' = a ∧ c' = cl ∧ d' = d ∧ c x Q
  | _ => False
theorem pd_callX (i : Nat) {a : Addr} {oe : Obj} {cls : Value} {d : Option Addr} {pn : List (Addr × Obj)} {k : Nat} {f : Addr} {fd : FuncData} {y x n : Str} {c : XD → DQ → Prop} {p q pos : Pos} (hz : L2N.Zn cls d oe) (hf : ∃ vs, oe.data = .fields vs)
    (F : FnX X.prog X.w X.K X.mg X.base (L2N.CX X.prog X.w) k f fd [y] (spCX X.K c)) (hr : L2H.RoomH k (X.suite a ((a, oe) :: pn)).A) (hg : Gl (X.suite a ((a, oe) :: pn)) x) (hm : X.mg x = some (.ref f)) (hk : PySem.W.keepIn X.K (.ref f) = true) (hb : Binds X.K fd [y] [])
    (hv : PE (X.suite a ((a, oe) :: pn)) (.Name n p) (tVar i)) (hdb : (x == ("__debug__" : Str)) = false := by decide)
    (he : starEach [.Name n p] (X.suite a ((a, oe) :: pn)).env = (false, eval (.Name n p) (X.suite a ((a, oe) :: pn)).env) :: starEach [] (X.suite a ((a, oe) :: pn)).env := by rfl) (hpl : (backTo pos (starEach [] (X.suite a ((a, oe) :: pn)).env)).any (·.1) = false := by rfl) :
    PD (X.suite a ((a, oe) :: pn)) W (.Call (.Name x q) [.Name n p] [] pos) (wCallX i a cls d c) := by
  refine ⟨fun pins s σ H Q I h => ?_⟩
  obtain ⟨B, F0, env, Qd, Xd, so, w, ok, okx⟩ := h
  unfold wCallX at w
  split at w
  · rename_i a' c' dd' xx hsl
    obtain ⟨rfl, rfl, rfl, w⟩ := w
    have hx := so.slots i _ (slot_some hsl (by simp))
    obtain ⟨e, hx⟩ := hx
    have hx0 := hx
    obtain ⟨ec, d0, fs, ed, hh, hn, ha⟩ := hx
    subst ec ed
    refine wpAny_Call_Name_kw (ld_glob I hg hm (PySem.W.callWith_K (h₀ := X.base) I.ok.mod.kin hk (thn ((pa_cons hv pa_nil he).run pos pins s σ H (fun zs H2 => zs = [V.ref a'] ∧ H2 = H) I ⟨_, e, rfl, rfl⟩) fun us s1 ⟨zs, H1, I1, r1, ez, eH⟩ => ⟨I1.kIn, ?_⟩) he hpl) hdb)
    subst ez eH
    have want : spCX X.K c (a', oe) [V.ref a'] H1 Q (fun _ _ _ => False) := ⟨B.pl, F0, d0, xx, Qd, rfl, so.fo.refl, hz, hf, hx0, w, ok⟩
    have hl : us.length = ([y] : List Str).length := by rw [← r1.length]; rfl
    have b := hb s1 us I1.kIn (by rw [List.append_nil]; exact hl)
    rw [List.append_nil] at b
    have P1 := I1.pin (a', oe) (List.mem_append_left _ List.mem_cons_self)
    have hpin : L2H.PinOk (X.suite a' ((a', oe) :: pn)).stack H1 s1 (a', oe) := ⟨P1.1, P1.2.1, fun hm => (List.mem_cons.mp (I1.stkSub a' hm)).elim P1.2.2.1 P1.2.2.2.1, P1.2.2.2.2⟩
    have hot : L2H.Hot1 (X.suite a' ((a', oe) :: pn)).A (a', oe) := by
      obtain ⟨vs, e⟩ := hf
      exact ⟨rfl, vs, e, hz.2.2 vs e⟩
    refine wpAny_call (codeAny_mono (F.run (a', oe) _ _ s1 H1 ⟨us, []⟩ us [V.ref a'] Q _ hr hot hpin I1.env0 b r1 want) fun r s' hq => ?_)
    cases r with
    | error er =>
      obtain ⟨_, _, _, _, _, _, _, _, _, _, _, _, z⟩ := hq
      exact z.elim
    | ok fl =>
      cases fl with
      | ret u => exact I1.after hq
      | next => exact False.elim hq
      | brk => exact False.elim hq
      | cont => exact False.elim hq
  · exact w.elim
end
end Hw
-- HwJ
set_option Elab.async false
set_option linter.all false
set_option maxRecDepth 100000
set_option maxHeartbeats 8000000
namespace Hw
open PySem L2 PySem.Spec PyProof.Rows PySem.HandSPX
/-! ### an own exception made with keywords: type.__call__, __new__ (that drops them), the own __init__ -/
section
variable {M : Model} {prog : Program} {w : World} {A : Around} {E : Value → Shared → Prop} {R : Result → Shared → Prop} {hp : Heap} {g : Array GenState} {dr : Drawn} {tk : Nat} {os : OsState}
variable {nm q : Str} {C N : Addr} {bs bm bmB : List Value} {hdct : Bool} {sn : List Str} {sub : List Value} {ab : Bool} {col : Option Bool} {dd : Option Addr} {k0 k1 k2 k3 k5 : Option Value} {B newId initId : String}
theorem chk_newK (F : ExcBaseFacts B newId initId bmB) (same : ∀ X : String, bm.contains (.type X) = bmB.contains (.type X)) {us : List Value} {kws : List (Str × Value)} {Q : Unit → Shared → Prop}
    (look : hp.get? C = some (excClassObj nm q C N bs bm hdct sn sub ab col dd k0 k1 k2 k3 k5 newId)) (z : Q () ⟨hp, g, dr, tk, os⟩) : wpAny M A (checkBuiltinCall newId ⟨.ref C :: us, kws⟩) Q E ⟨hp, g, dr, tk, os⟩ := by
  have has : (Value.ref C :: bm).contains (.type B) = true := by rw [List.contains_cons, same, F.hasB, Bool.or_true]
  have starless := F.noStar
  simp only [checkBuiltinCall, F.newKind, F.newSplit, F.newRow]
  repeat (first
    | refine wpAny_loadPart_at look ?_
    | (refine wpAny_isSubtype_exc look ?_; rw [has])
    | refine wpAny_staticBase_exc look ?_
    | refine wpAny_madeBy_exc look ?_
    | simp only [bne_self_eq_false, Bool.false_eq_true, if_false]
    | wp_step)
  exact z
theorem newK (F : ExcBaseFacts B newId initId bmB) (same : ∀ X : String, bm.contains (.type X) = bmB.contains (.type X)) {us : List Value} {kws : List (Str × Value)}
    (look : hp.get? C = some (excClassObj nm q C N bs bm hdct sn sub ab col dd k0 k1 k2 k3 k5 newId)) (few : us.length ≤ sizeLine)
    (z : R (.ok (.ret (.ref (hp.objs.size + 1)))) ⟨(hp.push (PySem.W.kdv_tup us)).push (excO C hp.objs.size), g, dr, tk, os⟩) :
    codeAny (model prog w) A (.builtin newId ⟨.ref C :: us, kws⟩) R ⟨hp, g, dr, tk, os⟩ := by
  have tail := F.ends
  have in1 : (Value.ref C :: bm).contains (.type B) = true := by rw [List.contains_cons, same, F.hasB, Bool.or_true]
  have in2 : (Value.ref C :: bm).contains (.type "AttributeError") = false := by rw [List.contains_cons, same, F.noAttr]; rfl
  have in3 : (Value.ref C :: bm).contains (.type "NameError") = false := by rw [List.contains_cons, same, F.noName]; rfl
  refine codeAny_builtinAt F.entry ?_
  unfold Builtin.«BaseException.__new__»
  refine PySem.wpAt_bind ?_
  show PySem.wpAt _ _ _ (stack >>= _) _ _ _
  refine PySem.wpAt_bind (PySem.wpAt_stack fun _ _ => PySem.wpAt_of_wpAny ?_)
  wp_walk
  refine PySem.wpAt_of_wpAny ?_
  rw [F.owner]
  repeat (first
    | with_reducible refine wpAny_madeHere_exc F.canon look ?_
    | with_reducible refine wpAny_loadPart_at look ?_
    | (with_reducible refine wpAny_isSubtype_exc look ?_; first | rw [in1] | rw [in2] | rw [in3])
    | wp_step)
  show R _ _
  rw [Heap.size_push]
  exact z
theorem typeK (F : ExcBaseFacts B newId initId bmB) (same : ∀ X : String, bm.contains (.type X) = bmB.contains (.type X)) {us : List Value} {kws : List (Str × Value)} {fI : Addr} {Q : Fin → Shared → Prop}
    (look : hp.get? C = some (excClassObj nm q C N bs bm hdct sn sub ab col dd k0 k1 k2 k3 k5 newId)) (li : PySem.W.Looks (model prog w) hp (typeLookup (.ref C) "__init__") (some (.ref fI)))
    (lb : ∀ self, PySem.W.Looks (model prog w) hp (bindSpecial (.ref fI) self) (.ref fI, [self])) (few : us.length ≤ sizeLine)
    (z : codeAny (model prog w) A (.call (.ref fI) ⟨.ref (hp.objs.size + 1) :: us, kws⟩) (fun r s' => match r with
        | .ok (.ret v) => v = .none ∧ Q (.done (.ret (.ref (hp.objs.size + 1)))) s'
        | .ok _ => False
        | .error e => E e s') ⟨(hp.push (PySem.W.kdv_tup us)).push (excO C hp.objs.size), g, dr, tk, os⟩) :
    wpAny (model prog w) A (Builtin.«type.__call__» ⟨.ref C :: us, kws⟩) Q E ⟨hp, g, dr, tk, os⟩ := by
  repeat (first
    | with_reducible refine wpAny_loadPart_at look ?_
    | with_reducible refine wpAny_madeBy_exc look ?_
    | wp_step)
  refine codeAny_call_builtin_code (Code.quiet_builtin _ F.quiet) (chk_newK F same look ?_)
  refine newK F same look few ?_
  show wpAny _ _ _ _ _ _
  have keep : ∀ b o, hp.get? b = some o → ((hp.push (PySem.W.kdv_tup us)).push (excO C hp.objs.size)).get? b = some o := fun _ _ e => Heap.get?_push_of_some _ (Heap.get?_push_of_some _ e)
  have look1 := keep _ _ look
  have made : ((hp.push (PySem.W.kdv_tup us)).push (excO C hp.objs.size)).get? (hp.objs.size + 1) = some (excO C hp.objs.size) := by heap_get
  have self : (Value.ref C :: bm).contains (.ref C) = true := by simp
  have li1 := li.keeps keep
  have lb1 := (lb (.ref (hp.objs.size + 1))).keeps keep
  unfold isInstance
  repeat (first
    | with_reducible refine wpAny_loadPart_at made ?_
    | (with_reducible refine wpAny_isSubtype_exc look1 ?_; rw [self])
    | wp_step)
  show wpAny _ _ (typeLookup (.ref C) _) _ _ _
  refine li1.at ?_
  refine wpAny_holding (wpAny_bind (lb1.at ?_))
  refine wpAny_bind (wpAny_call (codeAny_mono z fun r s' y => ?_))
  rcases r with e | (v | _ | _ | _) <;> first | exact y | exact y.elim | skip
  obtain ⟨rfl, y⟩ := y
  first
    | exact wpAny_pure (wpAny_pure y)
    | (wp_walk; exact y)
theorem ownK (F : ExcBaseFacts B newId initId bmB) (same : ∀ X : String, bm.contains (.type X) = bmB.contains (.type X)) {us : List Value} {kws : List (Str × Value)} {fI : Addr}
    (look : hp.get? C = some (excClassObj nm q C N bs bm hdct sn sub ab col dd k0 k1 k2 k3 k5 newId)) (li : PySem.W.Looks (model prog w) hp (typeLookup (.ref C) "__init__") (some (.ref fI)))
    (lb : ∀ self, PySem.W.Looks (model prog w) hp (bindSpecial (.ref fI) self) (.ref fI, [self])) (few : us.length ≤ sizeLine)
    (z : codeAny (model prog w) (A.under (.builtin "type.__call__" ⟨.ref C :: us, kws⟩)) (.call (.ref fI) ⟨.ref (hp.objs.size + 1) :: us, kws⟩) (PySem.W.InitBack (hp.objs.size + 1) R)
      ⟨(hp.push (PySem.W.kdv_tup us)).push (excO C hp.objs.size), g, dr, tk, os⟩) : codeAny (model prog w) A (.call (.ref C) ⟨us, kws⟩) R ⟨hp, g, dr, tk, os⟩ := by
  have x1 := tc_lookup
  have x2 := tc_bind (.ref C)
  have isT : (⟨hp, g, dr, tk, os⟩ : Shared).TypeIs (.ref C) "type" := ⟨_, look, rfl⟩
  refine codeAny_of_tree ?_
  show wpAny _ _ (callAny (.ref C) _) _ _ _
  repeat (any_goals (first
    | assumption
    | with_reducible refine wpAny_loadPart_at look ?_
    | wp_step))
  refine ⟨rfl, ?_⟩
  refine codeAny_call_builtin_at (Code.quiet_builtin _ (by decide +kernel)) entry_typeCall (wpAny_check_type_call_sub look ?_)
  refine typeK F same look li lb few ?_
  refine codeAny_mono z fun r s' y => ?_
  rcases r with e | (v | _ | _ | _) <;> exact y
end
/-- what __init__(self, ..) leaves: its fields, told by fs -/
def spIniN (C : Addr) (n : Nat) (fs : List V → List (Str × V)) : Sp := fun vs H Q _ => ∃ (a : Addr) (rest : List V), vs = .ref a :: rest ∧ rest.length = n ∧ H a = some (exo a C none) ∧
  ∀ (dx : Addr) (H' : Hp), H dx = none → dx ≠ a → (∀ b, b ≠ dx → b ≠ a → H' b = H b) → H' a = some (exo a C (some dx)) → H' dx = some (exd dx (fs rest)) → Q .non H'
section
variable {P : Program} {w : World} {K : PySem.W.Frag} {mg : Str → Option Value} {base : Heap} {C fI : Addr} {fdI : FuncData}
theorem iniN_two {CX : CXT} {k : Nat} {ps : List Str} {f1 f2 : Str} (F : FnOk P w K mg base CX k fI fdI ps (spIni C f1 f2)) : FnOk P w K mg base CX k fI fdI ps (spIniN C 2 fun r => match r with
    | [v1, v2] => [(f2, v2), (f1, v1)]
    | _ => []) := by
  refine F.imp fun vs H Q E h => ?_
  obtain ⟨a, rest, rfl, hl, ha, q⟩ := h
  match rest, hl, q with
  | [v1, v2], _, q =>
    refine ⟨a, v1, v2, rfl, ha, fun dx hd ne => q dx _ hd ne (fun b n1 n2 => ?_) ?_ upd_same⟩
    · rw [upd_ne n1, upd_ne n2, upd_ne n1]
    · rw [upd_ne ne.symm, upd_same]
end
section
variable {X : Cx}
/-- what binds a made exception's values: the place's, the keywords' -/
structure KWC (K : PySem.W.Frag) (fd : FuncData) (ps : List Str) (m : Nat) (ks : List Str) (is : List Nat) : Prop where
  to : ∀ (s : Shared) (self : Value) (us ws : List Value), K.In s.heap → us.length = m → ws.length = ks.length → BindsTo s fd ⟨self :: us, ks.zip ws⟩ (ps.zip (self :: perm is (us ++ ws)))
theorem kwc_mk {K : PySem.W.Frag} {x qual : Str} {st : Stmt} {f : Addr} {fd : FuncData} {ps : List Str} (F : Fun K x qual st f fd) (m : Nat) (ks : List Str) (is : List Nat)
    (h : ∀ (kV doc pm : Value) (an : Option Addr) (cdv ct : Value) (self : Value) (us ws : List Value), us.length = m → ws.length = ks.length → bindArgs (PySem.W.fnOf x qual (defArgs st) (defBody st) (defScope st) .none kV doc pm an cdv ct) ⟨self :: us, ks.zip ws⟩ = pure (ps.zip (self :: perm is (us ++ ws)))) :
    KWC K fd ps m ks is := by
  obtain ⟨oc, od, kV, doc, pm, an, cdv, ct, osl, rfl, lk, hcd⟩ := F.ex
  exact ⟨fun s self us ws _ l1 l2 => .of_eq (h kV doc pm an cdv ct self us ws l1 l2)⟩
theorem vals_app : ∀ {vs zs : List V} {us ws : List Value}, Vals vs us → Vals zs ws → Vals (vs ++ zs) (us ++ ws)
  | [], _, _, _, .nil, h => h
  | _ :: _, _, _, _, .cons r t, h => .cons r (vals_app t h)
/-- the exception as a value -/
def tExv (C : Addr) (n : Nat) (fs : List V → List (Str × V)) (is : List Nat) (ta tk : TA) : TE := fun σ H Q => ta σ H fun vs H1 => tk σ H1 fun zs H2 => (perm is (vs ++ zs)).length = n ∧ vs.length ≤ 1000 ∧
  ∀ (a d : Addr) (H3 : Hp), H2 a = none → H2 d = none → a ≠ d → (∀ b o, H2 b = some o → H3 b = some o) → H3 a = some (exo a C (some d)) → H3 d = some (exd d (fs (perm is (vs ++ zs)))) → Q (.ref a) H3
theorem run_exv {CX : CXT} {C fI : Addr} {k n m : Nat} {fd : FuncData} {ps ks : List Str} {is : List Nat} {fs : List V → List (Str × V)} {pins : List (Addr × Obj)} {σ : L2.St} {H2 : Hp} {s2 : Shared} {Q : VK} {us ws : List Value} {vs zs : List V} (T : OexC X.K C)
    (hi : PySem.W.findIn X.K (.ref C) "__init__" = some (some (.ref fI))) (ti : PySem.W.typeIn X.K (.ref fI) = some (.type "function")) (F1 : FnOk X.prog X.w X.K X.mg X.base CX k fI fd ps (spIniN C n fs)) (hr : Room (k + 1) X.A) (hb : KWC X.K fd ps m ks is)
    (hx : Passes CX X (fun _ _ _ => False)) (I2 : Inv X pins σ H2 s2) (r : Vals vs us) (rz : Vals zs ws) (lm : vs.length = m) (lk : zs.length = ks.length) (ln : (perm is (vs ++ zs)).length = n) (few : vs.length ≤ 1000)
    (q : ∀ (a d : Addr) (H3 : Hp), H2 a = none → H2 d = none → a ≠ d → (∀ b o, H2 b = some o → H3 b = some o) → H3 a = some (exo a C (some d)) → H3 d = some (exd d (fs (perm is (vs ++ zs)))) → Q (.ref a) H3) :
    wpAny (model X.prog X.w) X.A (call (.ref C) us (ks.zip ws)) (EP X pins σ Q) X.xe s2 := by
  obtain ⟨nm, qn, ns, bs, mro, snm, sbc, abt, clc, ddc, j0, j1, j2, j3, j5, look, refs⟩ := T.cls
  obtain ⟨hp, gs, dr, tk, os⟩ := s2
  have le1 : hp.objs.size ≤ hp.objs.size + 1 := Nat.le_succ _
  have new : H2 (hp.objs.size + 1) = none := I2.hok.fresh le1
  have keep2 : ∀ b o, hp.get? b = some o → ((hp.push (PySem.W.kdv_tup us)).push (excO C hp.objs.size)).get? b = some o := fun b o z => Heap.get?_push_of_some _ (Heap.get?_push_of_some _ z)
  have get2 : ((hp.push (PySem.W.kdv_tup us)).push (excO C hp.objs.size)).get? (hp.objs.size + 1) = some (excO C hp.objs.size) := by heap_get
  have J2 : Inv X pins σ (upd H2 (hp.objs.size + 1) (exo (hp.objs.size + 1) C none)) ⟨(hp.push (PySem.W.kdv_tup us)).push (excO C hp.objs.size), gs, dr, tk, os⟩ :=
    I2.laid (t' := tk) (a := hp.objs.size + 1) (o := exo (hp.objs.size + 1) C none) (h' := (hp.push (PySem.W.kdv_tup us)).push (excO C hp.objs.size)) keep2 le1 (exo_ok get2)
  have rel : Vals (V.ref (hp.objs.size + 1) :: perm is (vs ++ zs)) (Value.ref (hp.objs.size + 1) :: perm is (us ++ ws)) := .cons rfl (vals_perm (vals_app r rz) is)
  have few2 : us.length ≤ sizeLine := by rw [← r.length]; exact line_le (by omega)
  have want : spIniN C n fs (V.ref (hp.objs.size + 1) :: perm is (vs ++ zs)) (upd H2 (hp.objs.size + 1) (exo (hp.objs.size + 1) C none)) (fun v H3 => v = .non ∧ Q (.ref (hp.objs.size + 1)) H3) (fun _ _ _ => False) := by
    refine ⟨hp.objs.size + 1, _, rfl, ln, upd_same, fun dx H' hd ne stay at1 at2 => ⟨rfl, ?_⟩⟩
    rw [upd_ne ne] at hd
    refine q _ dx H' new hd ne.symm (fun b o e => ?_) at1 at2
    have n1 : b ≠ dx := ne_of_none e hd
    have n2 : b ≠ hp.objs.size + 1 := ne_of_none e new
    rw [stay b n1 n2, upd_ne n2]
    exact e
  have bnd := hb.to ⟨(hp.push (PySem.W.kdv_tup us)).push (excO C hp.objs.size), gs, dr, tk, os⟩ (Value.ref (hp.objs.size + 1)) us ws J2.kIn (by rw [← r.length]; exact lm) (by rw [← rz.length]; exact lk)
  refine wpAny_call (ownK F.excBase_ValueError (fun Y => PySem.HandSPX.refsVE_contains Y mro refs) (I2.kIn _ _ look) (PySem.W.looks_findIn I2.kIn hi) (fun self => PySem.W.bind_fn I2.kIn self ti) few2
    (codeAny_mono (F1.run _ X.stack _ _ ⟨Value.ref (hp.objs.size + 1) :: us, ks.zip ws⟩ (Value.ref (hp.objs.size + 1) :: perm is (us ++ ws)) _ _ (fun _ _ _ => False) (hr.make C us (ks.zip ws)) (J2.env0.make C us (ks.zip ws)) bnd rel want) fun rr s' hq => ?_))
  cases rr with
  | error er => exact hx pins σ _ _ er s' J2 hq
  | ok fl =>
    cases fl with
    | next => exact False.elim hq
    | brk => exact False.elim hq
    | cont => exact False.elim hq
    | ret u =>
      obtain ⟨x, H', J, rx, ex, qq⟩ := J2.after hq
      subst ex
      exact ⟨rx, .ref (hp.objs.size + 1), H', J, rfl, qq⟩
end
end Hw
-- HwK
set_option Elab.async false
set_option linter.all false
set_option maxRecDepth 100000
set_option maxHeartbeats 4000000
namespace Hw
open PySem L2 PySem.Spec PyProof.Rows PySem.HandSPX
section
variable {X : Cx} {CX : CXT} {x : Str} {C fI : Addr} {k n m : Nat} {fd : FuncData} {ps ks : List Str} {is : List Nat} {fs : List V → List (Str × V)} {e : Expr} {es : List Expr} {kws : List Keyword} {p pos : Pos} {ta tk : TA}
theorem pe_exvP (T : OexC X.K C) (hi : PySem.W.findIn X.K (.ref C) "__init__" = some (some (.ref fI))) (ti : PySem.W.typeIn X.K (.ref fI) = some (.type "function")) (F1 : FnOk X.prog X.w X.K X.mg X.base CX k fI fd ps (spIniN C n fs)) (hr : Room (k + 1) X.A) (hb : KWC X.K fd ps m [] is)
    (hx : Passes CX X (fun _ _ _ => False)) (hg : Gl X x) (hm : X.mg x = some (.ref C)) (ha : PA X (e :: es) ta) (hdb : (x == ("__debug__" : Str)) = false := by decide)
    (he : starEach (e :: es) X.env = (false, eval e X.env) :: starEach es X.env := by rfl) (hpl : (backTo pos (starEach es X.env)).any (·.1) = false := by rfl) :
    PE X (.Call (.Name x p) (e :: es) [] pos) (fun σ H Q => ta σ H fun vs H1 => vs.length = m ∧ tExv C n fs is (fun _ H Q => Q vs H) (fun _ H Q => Q [] H) σ H1 Q) := by
  refine ⟨fun pins s σ H Q I h => ?_⟩
  refine wpAny_Call_Name_kw (ld_glob I hg hm (PySem.W.callWith_K (h₀ := X.base) I.ok.mod.kin T.kC (thn (ha.run pos pins s σ H _ I h) fun us s1 ⟨vs, H1, I1, r1, lm, q1⟩ => ⟨I1.kIn, ?_⟩) he hpl) hdb)
  exact run_exv T hi ti F1 hr hb hx I1 r1 .nil lm rfl q1.1 q1.2.1 q1.2.2
theorem pe_exvK (T : OexC X.K C) (hi : PySem.W.findIn X.K (.ref C) "__init__" = some (some (.ref fI))) (ti : PySem.W.typeIn X.K (.ref fI) = some (.type "function")) (F1 : FnOk X.prog X.w X.K X.mg X.base CX k fI fd ps (spIniN C n fs)) (hr : Room (k + 1) X.A) (hb : KWC X.K fd ps 0 ks is)
    (hx : Passes CX X (fun _ _ _ => False)) (hg : Gl X x) (hm : X.mg x = some (.ref C)) (hkw : PK X kws tk) (hall : (backToKw pos (keywordEach kws X.env)).all (·.1.isSome) = true := by rfl) (hks : (backToKw pos (keywordEach kws X.env)).filterMap (·.1) = ks := by rfl)
    (hdb : (x == ("__debug__" : Str)) = false := by decide) (hpl : ((backTo pos (starEach [] X.env)).any (·.1) || (backToKw pos (keywordEach kws X.env)).any (·.1.isNone)) = false := by rfl) :
    PE X (.Call (.Name x p) [] kws pos) (fun σ H Q => tk σ H fun zs H1 => zs.length = ks.length ∧ tExv C n fs is (fun _ H Q => Q [] H) (fun _ H Q => Q zs H) σ H1 Q) := by
  refine ⟨fun pins s σ H Q I h => ?_⟩
  refine wpAny_Call_Name_kw (ld_glob I hg hm (PySem.W.callWith_KW0 (h₀ := X.base) I.ok.mod.kin T.kC hall ?_ hpl) hdb)
  refine thn (hkw.run pos pins s σ H _ I h) fun ws s1 ⟨zs, H1, I1, r1, lk, q1⟩ => ⟨I1.kIn, ?_⟩
  rw [hks]
  exact run_exv T hi ti F1 hr hb hx I1 .nil r1 rfl lk q1.1 (Nat.zero_le _) q1.2.2
theorem pe_exvM (T : OexC X.K C) (hi : PySem.W.findIn X.K (.ref C) "__init__" = some (some (.ref fI))) (ti : PySem.W.typeIn X.K (.ref fI) = some (.type "function")) (F1 : FnOk X.prog X.w X.K X.mg X.base CX k fI fd ps (spIniN C n fs)) (hr : Room (k + 1) X.A) (hb : KWC X.K fd ps m ks is)
    (hx : Passes CX X (fun _ _ _ => False)) (hg : Gl X x) (hm : X.mg x = some (.ref C)) (ha : PA X (e :: es) ta) (hkw : PK X kws tk) (hall : (backToKw pos (keywordEach kws X.env)).all (·.1.isSome) = true := by rfl) (hks : (backToKw pos (keywordEach kws X.env)).filterMap (·.1) = ks := by rfl)
    (hdb : (x == ("__debug__" : Str)) = false := by decide) (he : starEach (e :: es) X.env = (false, eval e X.env) :: starEach es X.env := by rfl)
    (hpl : ((backTo pos (starEach (e :: es) X.env)).any (·.1) || (backToKw pos (keywordEach kws X.env)).any (·.1.isNone)) = false := by rfl) :
    PE X (.Call (.Name x p) (e :: es) kws pos) (fun σ H Q => ta σ H fun vs H1 => tk σ H1 fun zs H2 => vs.length = m ∧ zs.length = ks.length ∧ tExv C n fs is (fun _ H Q => Q vs H) (fun _ H Q => Q zs H) σ H2 Q) := by
  refine ⟨fun pins s σ H Q I h => ?_⟩
  refine wpAny_Call_Name_kw (ld_glob I hg hm (PySem.W.callWith_KW (h₀ := X.base) I.ok.mod.kin T.kC hall (thn (ha.run pos pins s σ H _ I h) fun us s1 ⟨vs, H1, I1, r1, q1⟩ => ?_) hpl he) hdb)
  refine thn (hkw.run pos pins s1 σ H1 _ I1 q1) fun ws s2 ⟨zs, H2, I2, r2, lm, lk, q2⟩ => ⟨I2.kIn, ?_⟩
  rw [hks]
  exact run_exv T hi ti F1 hr hb hx I2 r1 r2 lm lk q2.1 q2.2.1 q2.2.2
/-- o.f of such a value -/
def tXat (C : Addr) (f : Str) (to : TE) : TE := fun σ H Q => to σ H fun v H1 => ∃ (a d : Addr) (fl : List (Str × V)) (y : V), v = .ref a ∧ H1 a = some (exo a C (some d)) ∧ H1 d = some (exd d fl) ∧ fl.lookup f = some y ∧ Q y H1
theorem pe_xat {o : Expr} {to : TE} {f : Str} (T : XfC X.K C) (hno : PySem.W.findIn X.K (.ref C) f = some none) (ho : PE X o to) (hb : attributeBase o f X.env (eval o X.env) = eval o X.env := by rfl) : PE X (.Attribute o f pos) (tXat C f to) := by
  refine ⟨fun pins s σ H Q I h => ?_⟩
  refine attr_of hb (thn (ho.run pins s σ H _ I h) fun u s1 hh => ?_)
  obtain ⟨x, H1, J, rx, a, d, fl, y, ex, h1, h2, l, q⟩ := hh
  subst ex
  obtain rfl : u = Value.ref a := rx
  obtain ⟨⟨t1, at1⟩, _⟩ : ObjOk X.prog X.w H1 s1.heap a (exo a C (some d)) := J.hok a _ h1
  obtain ⟨⟨mA, hns, hr⟩, _⟩ : ObjOk X.prog X.w H1 s1.heap d (exd d fl) := J.hok d _ h2
  obtain ⟨od, ho', hl⟩ := lookIn_ns hns
  obtain ⟨v, hv, rv⟩ := RelO.some_of (v := y) (o := mA f) (by rw [← l]; exact hr f)
  have inst : PySem.W.InstAt s1.heap a _ C (some od) := ⟨at1, rfl, rfl, ho'⟩
  exact exc_get J.kIn inst T.ga T.gg T.exC (PySem.W.findObj_own T.hdC hno rfl (by rw [hl, hv])) (handed_of rv) ⟨y, H1, J.tok _, rv, q⟩
/-- isinstance(o, c) of such a value -/
def rIsV (K : PySem.W.Frag) (C : Addr) : List V → Hp → VK → Prop := fun xs H Q => ∃ (a d : Addr) (fl : List (Str × V)) (c : V) (cv : Value) (b : Bool), xs = [.ref a, c] ∧ H a = some (exo a C (some d)) ∧ H d = some (exd d fl) ∧ (∀ u, RelV c u → u = cv) ∧ PySem.W.kitOne K (.ref C) cv = some b ∧ Q (.bl b) H
theorem call_isV (T : XcC X.K C) : CallR X (.builtin "isinstance") (rIsV X.K C) := by
  intro pins s σ H xs us Q I r h
  obtain ⟨a, d, fl, c, cv, b, rfl, h1, h2, hcv, e, q⟩ := h
  cases r with
  | cons rx rr =>
    cases rr with
    | cons rt rr =>
      cases rr
      cases rx
      have ec := hcv _ rt
      subst ec
      obtain ⟨⟨t1, at1⟩, _⟩ : ObjOk X.prog X.w H s.heap a (exo a C (some d)) := I.hok a _ h1
      obtain ⟨⟨mA, ⟨od, es, ep, ho, _⟩, _⟩, _⟩ : ObjOk X.prog X.w H s.heap d (exd d fl) := I.hok d _ h2
      have J : PySem.W.InstAt s.heap a _ C (some od) := ⟨at1, rfl, rfl, ho⟩
      exact PySem.W.kia_one (PySem.W.kitx_exc T.hcl T.hg T.hk T.hs T.ha T.hn T.ht T.hm) I.kIn J e (fun z => nomatch z) fun tk => ⟨.bl b, H, I.kept (t' := tk) fun _ _ z => z, rfl, q⟩
end
end Hw
-- HwL
set_option Elab.async false
set_option linter.all false
set_option maxRecDepth 100000
set_option maxHeartbeats 4000000
namespace Hw
open PySem PySem.Spec PyProof.Rows L2 Builtin Builtin.Str
/-! ### sep.join(reversed(a list of texts)) -/
section
variable {prog : Program} {w : World} {A : Around} {E : Value → Shared → Prop} {s : Shared}
theorem items_rev {items acc : Array Value} (got : ItemsOf (fun i v => items[items.size - 1 - i]? = some v) acc items.size) : acc.toList = items.toList.reverse := by
  apply List.ext_getElem
  · rw [Array.length_toList, List.length_reverse, Array.length_toList]
    exact got.1
  · intro j j1 j2
    rw [Array.length_toList] at j1
    have y := got.2 j _ (Array.getElem?_eq_getElem j1)
    have size := got.1
    obtain ⟨lt, e⟩ := Array.getElem?_eq_some_iff.mp y
    rw [List.getElem_reverse, Array.getElem_toList, Array.getElem_toList, ← e]
    simp only [Array.length_toList]
theorem join_rev {sep : PySem.Str} {t : Tok} {it l : Addr} {items : Array Value} {Q : Value → Shared → Prop} (calm : A.handled = none) (hit : s.heap.IsRevIter it l ((items.size : Int) - 1)) (hl : s.heap.IsList l items) (ne : l ≠ it) (few : items.size ≤ sizeLine)
    (str : ∀ v ∈ items.toList, ∃ y u, v = Value.str y u)
    (z : ∀ (h' : Heap) (tk : Nat) (ps : List (PySem.Str × Tok)), (∀ b o, b ≠ it → s.heap.get? b = some o → h'.get? b = some o) → strValues ps = items.toList.reverse → JoinOk sep (ps.map (·.1)) = true ∧ ∀ t' k, Q (.str (Txt.join sep (ps.map (·.1))) t') { s with heap := h', toks := k }) :
    wpAny (model prog w) A (call (.builtin "str.join") [.str sep t, .ref it]) Q E s := by
  have isIt : s.TypeIs (.ref it) "list_reverseiterator" := hit.typeIs
  refine wpAny_call (codeAny_call_builtin F.slot_str_join.plain F.entry_str_join (F.slot_str_join.check _ _ _ _ _ _ _ _ (typeIs_str _ _ _) (F.args_str_join_2 _ _) ?_))
  rw [join_tree_other]
  refine wpAny_bind (wpAny_typeOf isIt ?_)
  refine wpAny_bind (wpAny_tryCatch (wpAny_pyIter_revIter hit ?_))
  refine wpAny_bind (RT.collect_rev (A := A.in1) calm hit hl ne few ?_)
  intro h' tk acc keep got
  obtain ⟨ps, hps⟩ := exists_strValues acc.toList fun v hv => str v (by rw [items_rev got] at hv; exact List.mem_reverse.mp hv)
  rw [← hps]
  obtain ⟨fit, post⟩ := z h' tk ps keep (by rw [hps, items_rev got])
  unfold JoinOk at fit
  rw [Bool.not_eq_true'] at fit
  have give : Gives (joinTail sep (strValues ps)) (joinMade sep ps) := by
    have g0 := gives_joinTail sep ps fit
    cases ps with
    | nil => exact g0
    | cons p1 ps1 => cases ps1 <;> exact g0
  exact give prog w A (wants Q E) _ (post_join ps ⟨joinFit_length fit, post⟩)
end
theorem vals_strs : ∀ {ys : List PySem.Str} {us : List Value}, Vals (ys.map V.str) us → ∀ v ∈ us, ∃ y u, v = Value.str y u
  | [], _, .nil, v, h => by cases h
  | y :: ys, _, .cons r t, v, h => by
    rcases List.mem_cons.mp h with rfl | h
    · obtain ⟨k, rfl⟩ := r
      exact ⟨y, k, rfl⟩
    · exact vals_strs t v h
theorem vals_back : ∀ {ys : List PySem.Str} {us : List Value}, Vals (ys.map V.str) us → ∀ {ps : List (PySem.Str × Tok)}, strValues ps = us → ps.map (·.1) = ys
  | [], _, .nil, ps, h => by
    cases ps with
    | nil => rfl
    | cons _ _ => cases h
  | y :: ys, _, .cons r t, ps, h => by
    cases ps with
    | nil => cases h
    | cons p ps =>
      obtain ⟨k, rfl⟩ := r
      simp only [strValues, List.map_cons, List.cons.injEq] at h
      obtain ⟨h1, h2⟩ := h
      rw [List.map_cons, vals_back t h2]
      injection h1 with h1 _
      rw [h1]
section
variable {X : Cx}
def tJoinRev (K : PySem.W.Frag) (to te : TE) : TE := fun σ H Q => to σ H fun x H1 => ∃ sep : PySem.Str, x = .str sep ∧ te σ H1 fun v H2 => ∃ (l : Addr) (ys : List PySem.Str), v = .ref l ∧ SqL K H2 l (ys.map V.str) ∧ (ys.map (·.length)).sum + ys.length * sep.length ≤ 16777216 ∧ Q (.str (Txt.join sep ys.reverse)) H2
theorem pe_joinRev {o e : Expr} {to te : TE} {p2 pos2 apos cpos : Pos} (calm : X.calm = true) (hg : Gl X "reversed") (hm : X.mg "reversed" = none) (ho : PE X o to) (he : PE X e te)
    (hs : starEach [e] X.env = (false, eval e X.env) :: starEach [] X.env := by rfl)
    (hs2 : starEach [.Call (.Name "reversed" p2) [e] [] pos2] X.env = (false, eval (.Call (.Name "reversed" p2) [e] [] pos2) X.env) :: starEach [] X.env := by rfl)
    (hbase : attributeBase o "join" X.env (eval o X.env) = eval o X.env := by rfl) (hline : (apos.endLine == cpos.line) = true := by rfl)
    (hfew : ((backTo cpos (starEach [.Call (.Name "reversed" p2) [e] [] pos2] X.env)).all (fun x => !x.1) && (backToKw cpos (keywordEach [] X.env)).all (fun x => x.1.isSome)
      && decide (([.Call (.Name "reversed" p2) [e] [] pos2] : List Expr).length + ([] : List Keyword).length + (if ([] : List Keyword).isEmpty then 0 else 1) < 30)) = true := by rfl)
    (hpl : (backTo cpos (starEach [] X.env)).any (·.1) = false := by rfl) :
    PE X (.Call (.Attribute o "join" apos) [.Call (.Name "reversed" p2) [e] [] pos2] [] cpos) (tJoinRev X.K to te) := by
  refine ⟨fun pins s σ H Q I h => ?_⟩
  refine wpAny_Call_method_late hbase hfew hline rfl (thn (ho.run pins s σ H _ I h) fun v s1 ⟨x, H1, I1, r1, sep, ex, q1⟩ => ?_)
  subst ex
  obtain ⟨t, rfl⟩ := r1
  refine ⟨"str", "str.join", F.plainAttrs_str, F.slot_str_join, F.type_str_join, typeIs_str _ _ _, (fun b e => by cases e), ?_⟩
  rw [hs2]
  refine Calls.callWith_builtin (by show (false || (backTo cpos (starEach [] X.env)).any (·.1)) = false; rw [hpl] <;> rfl) (Calls.evalArgs_plain ?_)
  refine Calls.spliced_cons (Call_ (ld_blt I1 hg hm PyProof.Rows.boot_reversed (PyProof.Rows.callWith_type1 (args_cons (thn (he.run pins s1 σ H1 _ I1 q1) fun u s2 ⟨v2, H2, I2, r2, q2⟩ => args_nil ?_) hs) hs rfl)))
  obtain ⟨l, ys, ev, hq, fit, q⟩ := q2
  subst ev
  obtain rfl : u = Value.ref l := r2
  obtain ⟨its, rv, pl, hz⟩ := I2.list hq
  refine call_reversed_list pl.isList (Calls.spliced_nil ?_)
  show wpAny _ _ (call (.builtin "str.join") [.str sep t, .ref s2.heap.objs.size]) _ _ _
  have keep0 : ∀ b o, s2.heap.get? b = some o → (s2.heap.push (revObj l ((its.toArray.size : Int) - 1))).get? b = some o := fun b o y => Heap.get?_push_of_some _ y
  have J : Inv X pins σ H2 { s2 with heap := s2.heap.push (revObj l ((its.toArray.size : Int) - 1)) } := I2.kept (t' := s2.toks) keep0
  obtain ⟨f0, f1, _, f3, f4, f5⟩ := I2.fpOk (H' := H2) (b := s2.heap.objs.size) (Nat.le_refl _) (I2.hok.fresh (Nat.le_refl _))
  have isL := pl.isList
  obtain ⟨ol, at_l, _⟩ := id isL
  have far : l ≠ s2.heap.objs.size := Nat.ne_of_lt (Heap.lt_size at_l)
  have few : its.toArray.size ≤ sizeLine := by rw [List.size_toArray, ← rv.length]; exact hz
  refine join_rev (s := { s2 with heap := s2.heap.push (revObj l ((its.toArray.size : Int) - 1)) }) (I2.ok.hd calm) ⟨_, Heap.get?_push_size _ rfl, rfl, rfl⟩ (isL.push _) far few (fun v hv => vals_strs rv v (by simpa using hv)) fun h' tk ps keep eqs => ?_
  have J2 : Inv X pins σ H2 { s2 with heap := h', toks := tk } := J.turned (t' := tk) (fun b o hb y => keep b o hb y) f0 f1 f3 f4 f5
  have names : ps.map (·.1) = ys.reverse := by
    have back : Vals (ys.reverse.map V.str) its.reverse := by rw [List.map_reverse]; exact rv.reverse
    exact vals_back back (by rw [eqs])
  rw [names]
  refine ⟨joinOk_of ?_, fun t' k => ⟨.str (Txt.join sep ys.reverse), H2, J2.tok k, ⟨t', rfl⟩, q⟩⟩
  rw [List.map_reverse, List.sum_reverse, List.length_reverse]
  exact fit
end
end Hw
-- HwM
set_option Elab.async false
set_option linter.all false
set_option maxRecDepth 100000
set_option maxHeartbeats 4000000
namespace Hw
open PySem L2
/-! ### str(n), divmod, max, zfill, join of reversed -/
abbrev rStrI : List V → Hp → VK → Prop := fun xs H Q => ∃ i : Int, xs = [.int i] ∧ i.natAbs.log2 < 1920 ∧ Q (.str (Str.ofString (toString i))) H
def fStrI : List PyData → DQ → Prop := fun ds Q => match ds with
  | [.int i] => i.natAbs.log2 < 1920 ∧ Q (.str (Str.ofString (toString i)))
  | _ => False
theorem cad_strI {K : PySem.W.Frag} : CaD K rStrI fStrI := by
  intro B H F xs ds Qd Q fo hx w ok
  unfold fStrI at w
  split at w
  · cases hx with
    | cons h1 h2 =>
      cases h2
      exact ⟨_, by rw [dp_int h1], w.1, ok _ H F _ fo.refl (.str _) w.2⟩
  · exact w.elim
abbrev rDivm : List V → Hp → VK → Prop := fun xs H Q => ∃ i j : Int, xs = [.int i, .int j] ∧ CDivP i j ∧ ∀ p, H p = none → Q (.ref p) (upd H p (.tup [.int (i / j), .int (i % j)]))
def fDivm : List PyData → DQ → Prop := fun ds Q => match ds with
  | [.int i, .int j] => 0 < j ∧ j.natAbs.log2 < 9000 ∧ Q (.tuple [.int (i / j), .int (i % j)])
  | _ => False
theorem cad_divm {K : PySem.W.Frag} : CaD K rDivm fDivm := by
  intro B H F xs ds Qd Q fo hx w ok
  unfold fDivm at w
  split at w
  · rename_i i j
    cases hx with
    | cons h1 h2 =>
      cases h2 with
      | cons h3 h4 =>
        cases h4
        refine ⟨i, j, by rw [dp_int h1, dp_int h3], ⟨w.1, PyProof.noPylong_of_log2 w.2.1⟩, fun p hp => ?_⟩
        exact ok (.ref p) _ _ _ (fo.alloc hp) (.tup (Evl.st_of upd_same) (.cons (.int _) (.cons (.int _) .nil))) w.2.2
  · exact w.elim
abbrev rMax2 : List V → Hp → VK → Prop := fun xs H Q => ∃ i j : Int, xs = [.int i, .int j] ∧ Q (.int (if j > i then j else i)) H
def fMax2 : List PyData → DQ → Prop := fun ds Q => match ds with
  | [.int i, .int j] => Q (.int (max i j))
  | _ => False
theorem cad_max2 {K : PySem.W.Frag} : CaD K rMax2 fMax2 := by
  intro B H F xs ds Qd Q fo hx w ok
  unfold fMax2 at w
  split at w
  · rename_i i j
    cases hx with
    | cons h1 h2 =>
      cases h2 with
      | cons h3 h4 =>
        cases h4
        refine ⟨i, j, by rw [dp_int h1, dp_int h3], ?_⟩
        have e : (if j > i then j else i) = max i j := by
          by_cases h : j > i
          · rw [if_pos h]; omega
          · rw [if_neg h]; omega
        rw [e]
        exact ok _ H F _ fo.refl (.int _) w
  · exact w.elim
section
variable {X : Cx} {W : WX} {e o : Expr} {we wo : WE} {p p2 pos pos2 apos : Pos}
def wZf (wo we : WE) : WE := fun env Q X => wo env (fun x => match x with
  | .str a => we env (fun y => match y with
    | .int i => PadOk i = true ∧ Q (.str (Txt.zfill a i))
    | _ => False) X
  | _ => False) X
theorem pd_zfill (ho : PD X W o wo) (he : PD X W e we) (hs : starEach [e] X.env = [(false, eval e X.env)] := by rfl) (hbase : attributeBase o "zfill" X.env (eval o X.env) = eval o X.env := by rfl) (hline : (apos.endLine == pos.line) = true := by rfl) :
    PD X W (.Call (.Attribute o "zfill" apos) [e] [] pos) (wZf wo we) := by
  refine pe_imp (pe_m1 PySem.F.slot_str_zfill PySem.F.type_str_zfill mt_zfill ho he hs hbase hline) ?_
  rintro σ H Q ⟨B, F, env, Qd, Xd, so, w, ok, okx⟩
  refine ⟨B, F, env, _, Xd, so, w, fun x H1 F1 dx s1 hx w1 => ?_, okx⟩
  try dsimp only at w1
  split at w1
  · rename_i a
    have ex := dp_str hx
    subst ex
    refine ⟨⟨a, rfl⟩, B, F1, env, _, Xd, so.step s1, w1, fun y H2 F2 dy s2 hy w2 => ?_, okx.step s1⟩
    try dsimp only at w2
    split at w2
    · exact ⟨a, _, rfl, by rw [dp_int hy], w2.1, ok _ H2 F2 _ (s1.trans s2) (.str _) w2.2⟩
    · exact w2.elim
  · exact w1.elim
/-- s.join(reversed(x)), x a list of one's own -/
def wJoinRev (z : Str) (j : Nat) : WE := fun env Q _ => match slot env j with
  | .cell ds => ∃ ys : List Str, ds = ys.map PyData.str ∧ (ys.map (·.length)).sum + ys.length * z.length ≤ 16777216 ∧ Q (.str (Txt.join z ys.reverse))
  | _ => False
theorem hs_strs {K : PySem.W.Frag} {F : Hp} : ∀ {ys : List Str} {vs : List V}, HsA K F vs (ys.map PyData.str) → vs = ys.map V.str
  | [], _, .nil => rfl
  | y :: ys, _, .cons h t => by rw [List.map_cons, dp_str h, hs_strs t]
theorem pd_joinRev {z : Str} {k : Nat} {q : Pos} (calm : X.calm = true) (j : Nat) {x : Str} {p3 : Pos} (hg : Gl X "reversed") (hm : X.mg "reversed" = none) (hv : PE X (.Name x p3) (tVar j))
    (hs : starEach [.Name x p3] X.env = (false, eval (.Name x p3) X.env) :: starEach [] X.env := by rfl)
    (hs2 : starEach [.Call (.Name "reversed" p2) [.Name x p3] [] pos2] X.env = (false, eval (.Call (.Name "reversed" p2) [.Name x p3] [] pos2) X.env) :: starEach [] X.env := by rfl)
    (hbase : attributeBase (.Constant (.str z) k q) "join" X.env (eval (.Constant (.str z) k q) X.env) = eval (.Constant (.str z) k q) X.env := by rfl) (hline : (apos.endLine == pos.line) = true := by rfl)
    (hfew : ((backTo pos (starEach [.Call (.Name "reversed" p2) [.Name x p3] [] pos2] X.env)).all (fun x => !x.1) && (backToKw pos (keywordEach [] X.env)).all (fun x => x.1.isSome)
      && decide (([.Call (.Name "reversed" p2) [.Name x p3] [] pos2] : List Expr).length + ([] : List Keyword).length + (if ([] : List Keyword).isEmpty then 0 else 1) < 30)) = true := by rfl)
    (hpl : (backTo pos (starEach [] X.env)).any (·.1) = false := by rfl) :
    PD X W (.Call (.Attribute (.Constant (.str z) k q) "join" apos) [.Call (.Name "reversed" p2) [.Name x p3] [] pos2] [] pos) (wJoinRev z j) := by
  refine pe_imp (pe_joinRev calm hg hm pe_str hv hs hs2 hbase hline hfew hpl) ?_
  rintro σ H Q ⟨B, F, env, Qd, Xd, so, w, ok, okx⟩
  unfold wJoinRev at w
  split at w
  · rename_i ds hsl
    obtain ⟨ys, rfl, fit, q⟩ := w
    obtain ⟨a, vs, hj, e, hh, hd⟩ := slot_cell so hsl
    rw [hs_strs hd] at hh
    exact ⟨z, rfl, _, e, a, ys, rfl, Evl.sq_of hh, fit, ok _ H F _ so.fo.refl (.str _) q⟩
  · exact w.elim
end
end Hw
-- DecM
set_option Elab.async false
set_option linter.all false
set_option maxRecDepth 100000
set_option maxHeartbeats 4000000
namespace Hw
open PySem
/-! ### decimal digits -/
def dg (m : Nat) : List Nat := (Nat.toDigits 10 m).map Char.toNat
theorem dg_pos (m : Nat) : 0 < (dg m).length := by
  unfold dg
  rw [List.length_map]
  exact Nat.length_toDigits_pos
theorem dg_snoc {n d : Nat} (hn : 0 < n) (hd : d < 10) : dg (10 * n + d) = dg n ++ dg d := by
  unfold dg
  rw [← Nat.toDigits_append_toDigits (by decide) hn hd, List.map_append]
theorem dg_one {d : Nat} (hd : d < 10) : (dg d).length = 1 := by
  unfold dg
  rw [Nat.toDigits_of_lt_base hd]
  rfl
theorem dg_len {k r : Nat} (hk : 0 < k) (h : r < 10 ^ k) : (dg r).length ≤ k := by
  unfold dg
  rw [List.length_map]
  exact (Nat.length_toDigits_le_iff (by decide) hk).2 h
def zp (k r : Nat) : List Nat := List.replicate (k - (dg r).length) 48 ++ dg r
theorem zp_len {k r : Nat} (hk : 0 < k) (h : r < 10 ^ k) : (zp k r).length = k := by
  have := dg_len hk h
  unfold zp
  rw [List.length_append, List.length_replicate]
  omega
theorem zp_succ {k r1 d : Nat} (hk : 0 < k) (hd : d < 10) : zp (k + 1) (10 * r1 + d) = zp k r1 ++ dg d := by
  unfold zp
  by_cases h : 0 < r1
  · rw [dg_snoc h hd, List.length_append, dg_one hd, List.append_assoc]
    congr 2
    omega
  · have : r1 = 0 := by omega
    subst this
    rw [Nat.mul_zero, Nat.zero_add, dg_one hd]
    have e0 : dg 0 = [48] := by decide
    rw [e0]
    have : k + 1 - 1 = (k - 1) + 1 := by omega
    rw [this, List.replicate_succ']
    simp
theorem dg_split {k : Nat} (hk : 0 < k) : ∀ {q r : Nat}, 0 < q → r < 10 ^ k → dg (q * 10 ^ k + r) = dg q ++ zp k r := by
  induction k with
  | zero => omega
  | succ k ih =>
    intro q r hq hr
    by_cases h : k = 0
    · subst h
      have hr : r < 10 := by simpa using hr
      rw [Nat.zero_add, Nat.pow_one, Nat.mul_comm, dg_snoc hq hr]
      unfold zp
      rw [dg_one hr]
      rfl
    · have hk0 : 0 < k := by omega
      have e : r = 10 * (r / 10) + r % 10 := (Nat.div_add_mod r 10).symm
      have hd : r % 10 < 10 := Nat.mod_lt _ (by decide)
      have h1 : r / 10 < 10 ^ k := by
        rw [Nat.pow_succ] at hr
        exact Nat.div_lt_of_lt_mul (by rw [Nat.mul_comm]; exact hr)
      have e2 : q * 10 ^ (k + 1) + r = 10 * (q * 10 ^ k + r / 10) + r % 10 := by
        rw [Nat.pow_succ]
        have e3 : q * (10 ^ k * 10) = 10 * (q * 10 ^ k) := by rw [← Nat.mul_assoc, Nat.mul_comm]
        omega
      have hp : 0 < q * 10 ^ k + r / 10 := by
        have := Nat.mul_pos hq (Nat.pow_pos (n := k) (show 0 < 10 by decide))
        omega
      rw [e2, dg_snoc hp hd, ih hk0 hq h1, List.append_assoc]
      congr 1
      rw [← zp_succ hk0 hd, ← e]
end Hw
namespace Hw
open PySem
def strN (n : Nat) : Str := ⟨(dg n).toArray⟩
theorem str_int (n : Nat) : Str.ofString (toString ((n : Nat) : Int)) = strN n := PyProof.Rows.text_ofNat n
theorem zfill_18 {r : Nat} (h : r < 10 ^ 18) : (Txt.zfill (strN r) 18).cps.toList = zp 18 r := by
  have hl := dg_len (k := 18) (by decide) h
  have e : (strN r).length = (dg r).length := by unfold strN Str.length; simp
  unfold Txt.zfill
  by_cases h1 : (18 : Int) ≤ (strN r).length
  · rw [if_pos h1]
    rw [e] at h1
    unfold zp strN
    have : 18 - (dg r).length = 0 := by omega
    rw [this]
    simp
  · rw [if_neg h1]
    rw [e] at h1
    have head : ∀ c, (strN r).cps[0]? = some c → 48 ≤ c ∧ c ≤ 57 := by
      intro c hc
      have hm : c ∈ dg r := by
        unfold strN at hc
        rw [List.getElem?_toArray] at hc
        exact List.mem_of_getElem? hc
      unfold dg at hm
      obtain ⟨ch, h2, rfl⟩ := List.mem_map.mp hm
      have := Nat.isDigit_of_mem_toDigits (by decide) (by decide) h2
      unfold Char.isDigit at this
      simp only [Bool.and_eq_true, decide_eq_true_eq] at this
      exact ⟨this.1, this.2⟩
    have body : (Builtin.Str.padded (strN r) (Int.toNat 18 - (strN r).length) 0 48).cps.toList = zp 18 r := by
      unfold Builtin.Str.padded zp
      rw [e]
      simp [strN]
    unfold zfilled
    split
    · rename_i hc
      exact absurd (head _ hc).1 (by decide)
    · rename_i hc
      exact absurd (head _ hc).1 (by decide)
    · exact body
theorem join_cps : ∀ (ys : List Str), (Str.join (Str.ofString "") ys).cps.toList = (ys.map fun y => y.cps.toList).flatten
  | [] => rfl
  | [y] => by simp [Str.join]
  | y :: z :: r => by
    have ih := join_cps (z :: r)
    show (y ++ Str.ofString "" ++ Str.join (Str.ofString "") (z :: r)).cps.toList = _
    have e : ∀ a b : Str, (a ++ b).cps.toList = a.cps.toList ++ b.cps.toList := fun a b => by
      show (a.cps ++ b.cps).toList = _
      simp
    have e0 : (Str.ofString "").cps.toList = [] := by decide
    rw [e, e, ih, e0]
    simp
theorem str_ext {a b : Str} (h : a.cps.toList = b.cps.toList) : a = b := by
  obtain ⟨x⟩ := a
  obtain ⟨y⟩ := b
  congr 1
  exact Array.toList_inj.mp h
end Hw
-- K00c
set_option Elab.async false
set_option linter.all false
set_option maxRecDepth 100000
set_option maxHeartbeats 4000000
namespace Hw
open PySem L2
/-! ### quotients -/
abbrev Qo := Int × Int
def dq (q : Qo) : PyData := .tuple [.int q.1, .int q.2]
def isI : PyData → Bool
  | .int _ => true
  | _ => false
def IsQuo (q : Qo) : Prop := 1 ≤ q.2 ∧ Nat.gcd q.1.natAbs q.2.natAbs = 1
instance (q : Qo) : Decidable (IsQuo q) := inferInstanceAs (Decidable (_ ∧ _))
def isQ : PyData → Bool
  | .tuple [.int a, .int b] => decide (1 ≤ b) && decide (Nat.gcd a.natAbs b.natAbs = 1)
  | _ => false
def isRow : PyData → Bool
  | .tuple ds => ds.all isQ
  | _ => false
def dlen : PyData → Nat
  | .tuple ds => ds.length
  | _ => 0
def Bt (n : Nat) (q : Qo) : Prop := q.1.natAbs < 2 ^ n ∧ q.2.natAbs < 2 ^ n
/-- s stands for t / b -/
def Eqq (s : Qo) (u : Qo) : Prop := s.1 * u.2 = s.2 * u.1
instance (s u : Qo) : Decidable (Eqq s u) := inferInstanceAs (Decidable (_ = _))
def stepU (u q : Qo) : Qo := (u.1 * q.2 + q.1 * u.2, u.2 * q.2)
def sumU (qs : List Qo) : Qo := qs.foldl stepU (0, 1)
def pr (q r : Qo) : Qo := (q.1 * r.1, q.2 * r.2)
def nu (C : Addr) (w : Str) : XD := ⟨C, [("at", .int (-1)), ("word", .str w)]⟩
/-! ### what each def promises -/
def c_need (C : Addr) : Ct := fun ss Q X => ∃ (b : Bool) (w : Str), ss = [.val (.bool b), .val (.str w)] ∧ (b = true → Q .none) ∧ (b = false → X (nu C w))
def c_is_integer : Ct := fun ss Q _ => ∃ d, ss = [.val d] ∧ Q (.bool (isI d))
def c_is_quotient : Ct := fun ss Q _ => ∃ d, ss = [.val d] ∧ Q (.bool (isQ d))
def c_is_row : Ct := fun ss Q _ => ∃ d, ss = [.val d] ∧ dlen d ≤ 10000000 ∧ Q (.bool (isRow d))
def c_reduced : Ct := fun ss Q _ => ∃ (a b : Int) (m : Nat), ss = [.val (.int a), .val (.int b)] ∧ b ≠ 0 ∧ b.natAbs < 2 ^ m ∧ 0 < m ∧ m ≤ 9000 ∧
  ∀ s : Qo, IsQuo s → Eqq s (a, b) → s.1.natAbs ≤ a.natAbs → s.2.natAbs ≤ b.natAbs → Q (dq s)
def c_sum_of_two : Ct := fun ss Q _ => ∃ (q r : Qo) (m n : Nat), ss = [.val (dq q), .val (dq r)] ∧ IsQuo q ∧ IsQuo r ∧ Bt m q ∧ Bt n r ∧ 0 < m ∧ 0 < n ∧ m + n + 1 ≤ 9000 ∧
  ∀ s : Qo, IsQuo s → Eqq s (stepU q r) → Bt (m + n + 1) s → Q (dq s)
def c_product_of_two : Ct := fun ss Q _ => ∃ (q r : Qo) (m n : Nat), ss = [.val (dq q), .val (dq r)] ∧ IsQuo q ∧ IsQuo r ∧ Bt m q ∧ Bt n r ∧ 0 < m ∧ 0 < n ∧ m + n ≤ 9000 ∧
  ∀ s : Qo, IsQuo s → Eqq s (pr q r) → Bt (m + n) s → Q (dq s)
def c_difference_of_two : Ct := fun ss Q _ => ∃ (q r : Qo) (m n : Nat), ss = [.val (dq q), .val (dq r)] ∧ IsQuo q ∧ IsQuo r ∧ Bt m q ∧ Bt n r ∧ 0 < m ∧ 0 < n ∧ m + n + 1 ≤ 9000 ∧
  ∀ s : Qo, IsQuo s → Eqq s (stepU q (-r.1, r.2)) → Bt (m + n + 1) s → Q (dq s)
def c_ratio_of_two : Ct := fun ss Q _ => ∃ (q r : Qo) (m n : Nat), ss = [.val (dq q), .val (dq r)] ∧ IsQuo q ∧ r.1 ≠ 0 ∧ Bt m q ∧ Bt n r ∧ 0 < m ∧ 0 < n ∧ m + n ≤ 9000 ∧
  ∀ s : Qo, IsQuo s → Eqq s (q.1 * r.2, q.2 * r.1) → Bt (m + n) s → Q (dq s)
def c_lies_below : Ct := fun ss Q _ => ∃ (q r : Qo) (m : Nat), ss = [.val (dq q), .val (dq r)] ∧ Bt m q ∧ Bt m r ∧ 0 < m ∧ m ≤ 100000 ∧ Q (.bool (decide (q.1 * r.2 < r.1 * q.2)))
/-- both are quotients, else a refusal -/
def cTwo (C : Addr) (P : Qo → Qo → DQ → Prop) : Ct := fun ss Q X => ∃ d e, ss = [.val d, .val e] ∧ (isQ d = false → X (nu C "one")) ∧ (isQ d = true → isQ e = false → X (nu C "other")) ∧ ∀ q r, d = dq q → e = dq r → IsQuo q → IsQuo r → P q r Q
def c_need_two (C : Addr) : Ct := cTwo C fun _ _ Q => Q .none
def pPlus (q r : Qo) (Q : DQ) : Prop := ∃ m n : Nat, Bt m q ∧ Bt n r ∧ 0 < m ∧ 0 < n ∧ m + n + 1 ≤ 9000 ∧ ∀ s : Qo, IsQuo s → Eqq s (stepU q r) → Bt (m + n + 1) s → Q (dq s)
def c_plus (C : Addr) : Ct := cTwo C pPlus
def pTimes (q r : Qo) (Q : DQ) : Prop := ∃ m n : Nat, Bt m q ∧ Bt n r ∧ 0 < m ∧ 0 < n ∧ m + n ≤ 9000 ∧ ∀ s : Qo, IsQuo s → Eqq s (pr q r) → Bt (m + n) s → Q (dq s)
def c_times (C : Addr) : Ct := cTwo C pTimes
def pLess (q r : Qo) (Q : DQ) : Prop := ∃ m : Nat, Bt m q ∧ Bt m r ∧ 0 < m ∧ m ≤ 100000 ∧ Q (.bool (decide (q.1 * r.2 < r.1 * q.2)))
def c_is_less (C : Addr) : Ct := cTwo C pLess
def rowOf (d : PyData) (qs : List Qo) : Prop := d = .list (qs.map dq) ∨ d = .tuple (qs.map dq)
def pSum (qs : List Qo) (Q : DQ) : Prop := (∀ q ∈ qs, IsQuo q) ∧ ∃ n : Nat, 0 < n ∧ (∀ q ∈ qs, Bt n q) ∧ 1 + qs.length * (n + 1) ≤ 9000 ∧ ∀ s : Qo, IsQuo s → Eqq s (sumU qs) → Bt (1 + qs.length * (n + 1)) s → Q (dq s)
/-! ### kinds -/
def isN : PyData → Bool
  | .int i => decide (0 ≤ i)
  | _ => false
def isS : PyData → Bool
  | .int i => decide (-4 ≤ i) && decide (i ≤ -1)
  | _ => false
def isPic (n : Int) : PyData → Bool
  | .int i => decide (0 ≤ i) && decide (i < n)
  | _ => false
def topGt (l : Int) : PyData → Bool
  | .tuple (.int a :: _) => decide (l ≤ a)
  | _ => false
/-- a row of quotients whose tops are l or more -/
def isRowGe (l : Int) : PyData → Bool
  | .tuple ds => ds.all fun d => isQ d && topGt l d
  | _ => false
def c_is_number : Ct := fun ss Q _ => ∃ d, ss = [.val d] ∧ Q (.bool (isN d))
def c_is_positive : Ct := fun ss Q _ => ∃ d, ss = [.val d] ∧ Q (.bool (isQ d && topGt 1 d))
def c_is_shape_row : Ct := fun ss Q _ => ∃ d, ss = [.val d] ∧ dlen d ≤ 10000000 ∧ Q (.bool (isRowGe 1 d))
def cMany (C : Addr) (l : Int) : Ct := fun ss Q X => ∃ m d, ss = [.val m, .val d] ∧ dlen d ≤ 10000000 ∧ (isN m = false → X (nu C "many")) ∧ ∀ n : Int, m = .int n → 0 ≤ n → Q (.bool (isRowGe l d && decide ((dlen d : Int) = n)))
def c_is_shapes (C : Addr) : Ct := cMany C 1
def c_is_table (C : Addr) : Ct := cMany C 0
def c_is_side : Ct := fun ss Q _ => ∃ d, ss = [.val d] ∧ Q (.bool (isS d))
def c_is_picture : Ct := fun ss Q _ => ∃ (n : Int) (d : PyData), ss = [.val (.int n), .val d] ∧ Q (.bool (isPic n d))
def cSide (C : Addr) (k : Int) : Ct := fun ss Q X => ∃ d, ss = [.val d] ∧ (isS d = false → X (nu C "side")) ∧ ∀ i : Int, d = .int i → -4 ≤ i → i ≤ -1 → Q (.int ((i + k) % 4 - 4))
def c_side_after (C : Addr) : Ct := cSide C 5
def c_side_opposite (C : Addr) : Ct := cSide C 6
def c_is_place_among : Ct := fun ss Q _ => ∃ (n : Int) (d : PyData), ss = [.val (.int n), .val d] ∧ Q (.bool (isS d || isPic n d))
def c_is_place (C : Addr) : Ct := fun ss Q X => ∃ m d, ss = [.val m, .val d] ∧ (isN m = false → X (nu C "many")) ∧ ∀ n : Int, m = .int n → 0 ≤ n → Q (.bool (isS d || isPic n d))
def c_decimal : Ct := fun ss Q _ => ∃ n : Nat, ss = [.val (.int n)] ∧ n < 10 ^ 90 ∧ Q (.str (strN n))
def letter (i : Int) : Str := if i = -4 then "W" else if i = -3 then "N" else if i = -2 then "E" else "S"
def c_place_letter (C : Addr) : Ct := fun ss Q X => ∃ d, ss = [.val d] ∧ ((isS d || isN d) = false → X (nu C "place")) ∧ (∀ i : Int, d = .int i → -4 ≤ i → i ≤ -1 → Q (.str (letter i))) ∧ ∀ n : Nat, d = .int n → n < 10 ^ 90 ∧ Q (.str (strN n))
/-! ### quotients, more -/
def ng (q : Qo) : Qo := (-q.1, q.2)
def pMinus (q r : Qo) (Q : DQ) : Prop := pPlus q (ng r) Q
def c_minus (C : Addr) : Ct := cTwo C pMinus
/-- one over the other, its top not 0 -/
def c_over (C : Addr) : Ct := fun ss Q X => ∃ d e, ss = [.val d, .val e] ∧ (isQ d = false → X (nu C "one")) ∧ (isQ d = true → isQ e = false → X (nu C "other")) ∧ ∀ q r, d = dq q → e = dq r → IsQuo q → IsQuo r →
  (r.1 = 0 → X (nu C "other")) ∧ (r.1 ≠ 0 → ∃ m n : Nat, Bt m q ∧ Bt n r ∧ 0 < m ∧ 0 < n ∧ m + n ≤ 9000 ∧ ∀ s : Qo, IsQuo s → Eqq s (q.1 * r.2, q.2 * r.1) → Bt (m + n) s → Q (dq s))
/-! ### .. of the law's own -/
def cF : Ct := fun _ _ _ => False
def c_l_mixed : Ct := cInt2
def c_l_take : Ct := cTake
def c_l_whole : Ct := fun ss Q _ => ∃ d, ss = [.val d] ∧ Q (.bool (isI d))
def c_l_common : Ct := fun ss Q _ => ∃ a b : Int, ss = [.val (.int a), .val (.int b)] ∧ 0 ≤ a ∧ 0 ≤ b ∧ Q (.int ((Nat.gcd a.natAbs b.natAbs : Nat) : Int))
def c_l_low : Ct := fun ss Q _ => ∃ (a b : Int) (m : Nat), ss = [.val (.int a), .val (.int b)] ∧ 1 ≤ b ∧ b.natAbs < 2 ^ m ∧ 0 < m ∧ m ≤ 9000 ∧ ∀ s : Qo, IsQuo s → Eqq s (a, b) → s.1.natAbs ≤ a.natAbs → s.2.natAbs ≤ b.natAbs → Q (dq s)
def c_l_quotient : Ct := fun ss Q _ => ∃ d, ss = [.val d] ∧ Q (.bool (isQ d))
def c_l_small : Ct := fun ss Q _ => ss = [.pool] ∧ ∀ s : Qo, IsQuo s → Bt 4 s → Q (dq s)
def c_l_great : Ct := fun ss Q _ => ss = [.pool] ∧ ∀ n : Int, 1000000000 ≤ n.natAbs → n.natAbs < 2 ^ 200 → Q (.int n)
/-- any value of the menu -/
structure Val (d : PyData) : Prop where
  int : ∀ i : Int, d = .int i → i.natAbs < 2 ^ 200
  quo : ∀ q : Qo, d = dq q → IsQuo q → Bt 200 q
  len : dlen d ≤ 100
def c_l_value : Ct := fun ss Q _ => ss = [.pool] ∧ ∀ d, Val d → Q d
/-- a leaf that may be compared -/
def Leaf (d : PyData) : Prop := (∃ b, d = .bool b) ∨ (∃ i, d = .int i) ∨ ∃ z, d = .str z ∧ SeqAt.shaped (.str z) = true
def c_l_like0 : Ct := fun ss Q _ => ∃ d, ss = [.val d, .val d] ∧ Leaf d ∧ Q (.bool true)
def c_l_like1 : Ct := fun ss Q _ => ∃ ds, ss = [.val (.tuple ds), .val (.tuple ds)] ∧ ds.length ≤ 10 ∧ (∀ d ∈ ds, Leaf d) ∧ Q (.bool true)
def c_l_kin (C : Addr) : XD → DQ → Prop := fun x Q => x.C = C ∧ Q (.bool true)
def told (d : PyData) : PyData := .tuple [.str "told", d]
def ref3 (w : Str) : PyData := .tuple [.str "refused", .str w, .int (-1)]
def askT (C : Addr) (k : Int) (l r : PyData) (Q : DQ) (X : XQ) : Prop := (k = 0 ∧ c_plus C [.val l, .val r] Q X) ∨ (k = 1 ∧ c_minus C [.val l, .val r] Q X) ∨ (k = 2 ∧ c_times C [.val l, .val r] Q X) ∨ (k = 3 ∧ c_over C [.val l, .val r] Q X) ∨
  (k = 4 ∧ c_is_less C [.val l, .val r] Q X) ∨ (k = 5 ∧ c_is_shapes C [.val l, .val r] Q X) ∨ (k = 6 ∧ c_is_table C [.val l, .val r] Q X) ∨ (k = 7 ∧ c_is_place C [.val l, .val r] Q X)
def c_l_two (C : Addr) : Ct := fun ss Q _ => ∃ (k : Int) (l r : PyData) (nm : Bool), ss = [.val (.int k), .val l, .val r, .val (.bool nm)] ∧ askT C k l r (fun d => Q (told d)) (fun x => ∃ w : Str, x = nu C w ∧ Q (ref3 w))
def askS (C : Addr) (k : Int) (v : PyData) (Q : DQ) (X : XQ) : Prop := (k = 0 ∧ Q (.bool (isI v))) ∨ (k = 1 ∧ Q (.bool (isQ v))) ∨ (k = 2 ∧ Q (.bool (isQ v && topGt 1 v))) ∨ (k = 3 ∧ c_side_after C [.val v] Q X) ∨ (k = 4 ∧ c_side_opposite C [.val v] Q X) ∨ (k = 5 ∧ c_place_letter C [.val v] Q X)
def c_l_single (C : Addr) : Ct := fun ss Q _ => ∃ (k : Int) (v : PyData) (nm : Bool), ss = [.val (.int k), .val v, .val (.bool nm)] ∧ askS C k v (fun d => Q (told d)) (fun x => ∃ w : Str, x = nu C w ∧ Q (ref3 w))
def c_l_all_of : Ct := fun ss Q _ => ∃ (n l : Int) (d : PyData), ss = [.val (.int n), .val d, .val (.int l)] ∧ Q (.bool (isRowGe l d && decide ((dlen d : Int) = n)))
def due (k : Int) (q r : Qo) : Qo := if k = 1 then (q.1 * r.2 - r.1 * q.2, q.2 * r.2) else if k = 2 then (q.1 * r.1, q.2 * r.2) else if k = 3 then (q.1 * r.2, q.2 * r.1) else (q.1 * r.2 + r.1 * q.2, q.2 * r.2)
def c_l_reckoned : Ct := fun ss Q _ => ∃ (k : Int) (q r : Qo) (t : PyData), ss = [.val (.int k), .val (dq q), .val (dq r), .val t] ∧ 0 ≤ k ∧ k ≤ 4 ∧ Bt 1000 q ∧ Bt 1000 r ∧ (k = 4 → t = told (.bool (decide (q.1 * r.2 < r.1 * q.2)))) ∧
  (k < 4 → ∃ s : Qo, t = told (dq s) ∧ IsQuo s ∧ Eqq s (due k q r) ∧ Bt 3000 s) ∧ Q (.bool true)
def Val2 (d : PyData) : Prop := dlen d ≤ 1000 ∧ ∀ q : Qo, d = dq q → IsQuo q → Bt 1000 q
def c_l_pair (C : Addr) : Ct := fun ss Q _ => ∃ (k : Int) (l r : PyData) (nm : Bool), ss = [.val (.int k), .val l, .val r, .val (.bool nm)] ∧ 0 ≤ k ∧ k ≤ 7 ∧ Val2 l ∧ Val2 r ∧ Q (.bool true)
def c_l_alone (C : Addr) : Ct := fun ss Q _ => ∃ (v : PyData) (nm : Bool), ss = [.val v, .val (.bool nm)] ∧ Val v ∧ Q (.bool true)
def c_l_papers : Ct := fun ss Q _ => ∃ a b : Int, ss = [.val (.int a), .val (.int b)] ∧ Q (.bool true)
def c_l_errors : Ct := fun ss Q _ => ∃ a b : Int, ss = [.val (.int a), .val (.int b)] ∧ Q (.bool true)
def c_l_long : Ct := fun ss Q _ => ss = [.pool] ∧ ∀ q r : Qo, IsQuo q → IsQuo r → Bt 1000 q → Bt 1000 r → Q (.list [dq q, dq r])
def c_l_row : Ct := fun ss Q _ => ss = [.pool] ∧ ∀ ds : List PyData, ds.length ≤ 100 → (∀ d ∈ ds, Val d) → Q (.list ds)
section
variable {P : Program} {w : World} {K : PySem.W.Frag} {mg : Str → Option Value} {base : Heap} {X : Cx} {W : WX} {pos : Pos}
theorem pd_gint {x : Str} {i : Int} (hg : Gl X x) (hm : ∃ t, X.mg x = some (.int i t)) (hd : (x == ("__debug__" : Str)) = false := by decide) : PD X W (.Name x pos) (wC (.int i)) := by
  obtain ⟨t, h⟩ := hm
  exact pd_c (pe_glob (v := .int i) hg h ⟨t, rfl⟩ hd) fun _ => .int _
theorem pd_gstr {x z : Str} (hg : Gl X x) (hm : ∃ t, X.mg x = some (.str z t)) (hd : (x == ("__debug__" : Str)) = false := by decide) : PD X W (.Name x pos) (wC (.str z)) := by
  obtain ⟨t, h⟩ := hm
  exact pd_c (pe_glob (v := .str z) hg h ⟨t, rfl⟩ hd) fun _ => .str _
/-- a def that is handed the exception, callable by its promise -/
structure ClX (P : Program) (w : World) (K : PySem.W.Frag) (mg : Str → Option Value) (base : Heap) (k : Nat) (x y : Str) (c : XD → DQ → Prop) (a : Addr) (fd : FuncData) : Prop where
  F : FnX P w K mg base (L2N.CX P w) k a fd [y] (spCX K c)
  m : mg x = some (.ref a)
  kp : PySem.W.keepIn K (.ref a) = true
  b : Binds K fd [y] []
end
end Hw
-- K00m
set_option Elab.async false
set_option linter.all false
set_option maxRecDepth 100000
set_option maxHeartbeats 4000000
namespace Hw
open PySem L2
theorem isQ_dq {q : Qo} (h : IsQuo q) : isQ (dq q) = true := by
  obtain ⟨a, b⟩ := q
  simp only [dq, isQ, Bool.and_eq_true, decide_eq_true_eq]
  exact h
theorem isQ_inv : ∀ {d : PyData}, isQ d = true → ∃ q, d = dq q ∧ IsQuo q := by
  intro d h
  unfold isQ at h
  split at h
  · rename_i a b
    simp only [Bool.and_eq_true, decide_eq_true_eq] at h
    exact ⟨(a, b), rfl, h⟩
  · cases h
theorem dq_inj {q r : Qo} (h : dq q = dq r) : q = r := by
  obtain ⟨a, b⟩ := q
  obtain ⟨c, d⟩ := r
  simp only [dq, PyData.tuple.injEq, List.cons.injEq, PyData.int.injEq, and_true] at h
  rw [h.1, h.2]
theorem isQ_iff {q : Qo} : isQ (dq q) = true ↔ IsQuo q := by
  obtain ⟨a, b⟩ := q
  simp only [dq, isQ, Bool.and_eq_true, decide_eq_true_eq]
  exact Iff.rfl
theorem isRow_qs {qs : List Qo} (h : ∀ q ∈ qs, IsQuo q) : isRow (.tuple (qs.map dq)) = true := by
  simp only [isRow, List.all_eq_true, List.mem_map]
  rintro d ⟨q, hq, rfl⟩
  exact isQ_dq (h q hq)
theorem all_inv : ∀ {ds : List PyData}, ds.all isQ = true → ∃ qs : List Qo, ds = qs.map dq ∧ ∀ q ∈ qs, IsQuo q
  | [], _ => ⟨[], rfl, fun q h => by cases h⟩
  | d :: ds, h => by
    simp only [List.all_cons, Bool.and_eq_true] at h
    obtain ⟨q, rfl, hq⟩ := isQ_inv h.1
    obtain ⟨qs, rfl, hs⟩ := all_inv h.2
    exact ⟨q :: qs, rfl, fun r hr => by
      rcases List.mem_cons.mp hr with e | e
      · rw [e]; exact hq
      · exact hs r e⟩
theorem isRow_inv {d : PyData} (h : isRow d = true) : ∃ qs : List Qo, d = .tuple (qs.map dq) ∧ ∀ q ∈ qs, IsQuo q := by
  unfold isRow at h
  split at h
  · obtain ⟨qs, rfl, hq⟩ := all_inv h
    exact ⟨qs, rfl, hq⟩
  · cases h
theorem map_dq_inj : ∀ {qs rs : List Qo}, qs.map dq = rs.map dq → qs = rs
  | [], [], _ => rfl
  | q :: qs, r :: rs, h => by
    simp only [List.map_cons, List.cons.injEq] at h
    rw [dq_inj h.1, map_dq_inj h.2]
  | [], _ :: _, h => by cases h
  | _ :: _, [], h => by cases h
/-- what the lowest terms are -/
theorem red_ok {a b : Int} (hb : b ≠ 0) : let g : Int := ((Nat.gcd a.natAbs b.natAbs : Nat) : Int)
    (b < 0 → IsQuo (a.fdiv (-g), b.fdiv (-g)) ∧ Eqq (a.fdiv (-g), b.fdiv (-g)) (a, b) ∧ (a.fdiv (-g)).natAbs ≤ a.natAbs ∧ (b.fdiv (-g)).natAbs ≤ b.natAbs) ∧
    (¬ b < 0 → IsQuo (a.fdiv g, b.fdiv g) ∧ Eqq (a.fdiv g, b.fdiv g) (a, b) ∧ (a.fdiv g).natAbs ≤ a.natAbs ∧ (b.fdiv g).natAbs ≤ b.natAbs) := by
  intro g
  have hg0 : 0 < Nat.gcd a.natAbs b.natAbs := Nat.gcd_pos_of_pos_right _ (by omega)
  have hg : g ≠ 0 := by show ((Nat.gcd a.natAbs b.natAbs : Nat) : Int) ≠ 0; omega
  have d1 : g ∣ a := Int.ofNat_dvd_left.mpr (Nat.gcd_dvd_left _ _)
  have d2 : g ∣ b := Int.ofNat_dvd_left.mpr (Nat.gcd_dvd_right _ _)
  obtain ⟨x, hx⟩ := d1
  obtain ⟨y, hy⟩ := d2
  have nx : a.natAbs = Nat.gcd a.natAbs b.natAbs * x.natAbs := by
    conv => lhs; rw [hx, Int.natAbs_mul]
    rfl
  have ny : b.natAbs = Nat.gcd a.natAbs b.natAbs * y.natAbs := by
    conv => lhs; rw [hy, Int.natAbs_mul]
    rfl
  have cop : Nat.gcd x.natAbs y.natAbs = 1 := by
    obtain ⟨G, hG⟩ : ∃ G, G = Nat.gcd a.natAbs b.natAbs := ⟨_, rfl⟩
    have e := hG
    rw [← hG] at nx ny hg0
    rw [nx, ny, Nat.gcd_mul_left] at e
    have e2 : G * Nat.gcd x.natAbs y.natAbs = G * 1 := by omega
    exact Nat.eq_of_mul_eq_mul_left hg0 e2
  have le1 : x.natAbs ≤ a.natAbs := by rw [nx]; exact Nat.le_mul_of_pos_left _ hg0
  have le2 : y.natAbs ≤ b.natAbs := by rw [ny]; exact Nat.le_mul_of_pos_left _ hg0
  have f1 : a.fdiv g = x := by rw [hx]; exact Int.mul_fdiv_cancel_left x hg
  have f2 : b.fdiv g = y := by rw [hy]; exact Int.mul_fdiv_cancel_left y hg
  have hng : -g ≠ 0 := by omega
  have f3 : a.fdiv (-g) = -x := by
    rw [hx, show g * x = (-g) * (-x) by rw [Int.neg_mul_neg]]
    exact Int.mul_fdiv_cancel_left (-x) hng
  have f4 : b.fdiv (-g) = -y := by
    rw [hy, show g * y = (-g) * (-y) by rw [Int.neg_mul_neg]]
    exact Int.mul_fdiv_cancel_left (-y) hng
  have gpos : 0 < g := by show (0 : Int) < ((Nat.gcd a.natAbs b.natAbs : Nat) : Int); omega
  have y0 : y ≠ 0 := fun z => by rw [z, Int.mul_zero] at hy; exact hb hy
  refine ⟨fun hlt => ?_, fun hge => ?_⟩
  · rw [f3, f4]
    have yneg : y < 0 := by
      rcases Int.lt_trichotomy y 0 with z | z | z
      · exact z
      · exact absurd z y0
      · have := Int.mul_pos gpos z
        omega
    refine ⟨⟨by show 1 ≤ -y; omega, by show Nat.gcd (-x).natAbs (-y).natAbs = 1; rw [Int.natAbs_neg, Int.natAbs_neg]; exact cop⟩, ?_, by rw [Int.natAbs_neg]; exact le1, by rw [Int.natAbs_neg]; exact le2⟩
    show -x * b = -y * a
    rw [hx, hy]
    grind
  · rw [f1, f2]
    have ypos : 0 < y := by
      rcases Int.lt_trichotomy y 0 with z | z | z
      · have := Int.mul_neg_of_pos_of_neg gpos z
        omega
      · exact absurd z y0
      · exact z
    refine ⟨⟨by show 1 ≤ y; omega, cop⟩, ?_, le1, le2⟩
    show x * b = y * a
    rw [hx, hy]
    grind
/-- the same value, in lowest terms, is the same -/
theorem quo_eq {s t : Qo} (hs : IsQuo s) (ht : IsQuo t) (e : s.1 * t.2 = s.2 * t.1) : s = t := by
  obtain ⟨a, b⟩ := s
  obtain ⟨c, d⟩ := t
  obtain ⟨h1, h2⟩ := hs
  obtain ⟨h3, h4⟩ := ht
  simp only at *
  have en : a.natAbs * d.natAbs = b.natAbs * c.natAbs := by rw [← Int.natAbs_mul, ← Int.natAbs_mul, e]
  have d1 : b.natAbs ∣ d.natAbs := by
    have z : b.natAbs ∣ a.natAbs * d.natAbs := ⟨c.natAbs, en⟩
    exact Nat.Coprime.dvd_of_dvd_mul_left (Nat.Coprime.symm h2) z
  have d2 : d.natAbs ∣ b.natAbs := by
    have z : d.natAbs ∣ c.natAbs * b.natAbs := ⟨a.natAbs, by rw [Nat.mul_comm c.natAbs, ← en, Nat.mul_comm]⟩
    exact Nat.Coprime.dvd_of_dvd_mul_left (Nat.Coprime.symm h4) z
  have eb : b.natAbs = d.natAbs := Nat.dvd_antisymm d1 d2
  have ebd : b = d := by omega
  subst ebd
  have : a = c := by
    have z : a * b = c * b := by rw [e, Int.mul_comm]
    exact Int.eq_of_mul_eq_mul_right (by omega) z
  rw [this]
theorem eqq_uniq {s t u : Qo} (hs : IsQuo s) (ht : IsQuo t) (hu : u.2 ≠ 0) (e1 : Eqq s u) (e2 : Eqq t u) : s = t := by
  refine quo_eq hs ht ?_
  unfold Eqq at e1 e2
  have z : u.2 * (s.1 * t.2) = u.2 * (s.2 * t.1) := by grind
  exact Int.eq_of_mul_eq_mul_left hu z
theorem eqq_step {f g p U P : Qo} (hf : f.2 ≠ 0) (hp : p.2 ≠ 0) (e1 : Eqq f U) (e2 : Eqq p P) (e3 : Eqq g (stepU f p)) : Eqq g (stepU U P) := by
  unfold Eqq stepU at *
  simp only at *
  have z : (f.2 * p.2) * (g.1 * (U.2 * P.2)) = (f.2 * p.2) * (g.2 * (U.1 * P.2 + P.1 * U.2)) := by grind
  exact Int.eq_of_mul_eq_mul_left (Int.mul_ne_zero hf hp) z
theorem stepU_comm (u a b : Qo) : stepU (stepU u a) b = stepU (stepU u b) a := by
  unfold stepU
  simp only [Prod.mk.injEq]
  constructor <;> grind
theorem sumU_perm {xs ys : List Qo} (h : xs.Perm ys) : sumU xs = sumU ys := by
  unfold sumU
  exact h.foldl_eq' (fun a _ b _ u => stepU_comm u a b) _
theorem sumU_pos : ∀ {qs : List Qo} {u : Qo}, 0 < u.2 → (∀ q ∈ qs, 0 < q.2) → 0 < (qs.foldl stepU u).2
  | [], u, hu, _ => hu
  | q :: qs, u, hu, h => sumU_pos (qs := qs) (u := stepU u q) (Int.mul_pos hu (h q List.mem_cons_self)) fun r hr => h r (List.mem_cons_of_mem _ hr)
/-! ### bits -/
theorem lt_pow_mono {x m n : Nat} (h : x < 2 ^ m) (l : m ≤ n) : x < 2 ^ n := Nat.lt_of_lt_of_le h (Nat.pow_le_pow_right (by decide) l)
theorem Bt.mono {m n : Nat} {q : Qo} (h : Bt m q) (l : m ≤ n) : Bt n q := ⟨lt_pow_mono h.1 l, lt_pow_mono h.2 l⟩
theorem mul_bt {x y m n : Nat} (h1 : x < 2 ^ m) (h2 : y < 2 ^ n) : x * y < 2 ^ (m + n) := by rw [Nat.pow_add]; exact Nat.mul_lt_mul'' h1 h2
theorem imul_bt {x y : Int} {m n : Nat} (h1 : x.natAbs < 2 ^ m) (h2 : y.natAbs < 2 ^ n) : (x * y).natAbs < 2 ^ (m + n) := by rw [Int.natAbs_mul]; exact mul_bt h1 h2
theorem iadd_bt {x y : Int} {m : Nat} (h1 : x.natAbs < 2 ^ m) (h2 : y.natAbs < 2 ^ m) : (x + y).natAbs < 2 ^ (m + 1) := by
  have : (x + y).natAbs ≤ x.natAbs + y.natAbs := Int.natAbs_add_le x y
  rw [Nat.pow_succ]
  omega
theorem stepU_bt {u q : Qo} {m n : Nat} (h1 : Bt m u) (h2 : Bt n q) : Bt (m + n + 1) (stepU u q) :=
  ⟨iadd_bt (imul_bt h1.1 h2.1 |> fun _ => imul_bt h1.1 h2.2) (by rw [Nat.add_comm m n]; exact imul_bt h2.1 h1.2), lt_pow_mono (imul_bt h1.2 h2.2) (by omega)⟩
theorem pr_bt {q r : Qo} {m n : Nat} (h1 : Bt m q) (h2 : Bt n r) : Bt (m + n) (pr q r) := ⟨imul_bt h1.1 h2.1, imul_bt h1.2 h2.2⟩
/-- what a product of two numbers of so many bits asks -/
theorem wide {x y : Int} {m n : Nat} (h1 : x.natAbs < 2 ^ m) (h2 : y.natAbs < 2 ^ n) (hm : 0 < m) (hn : 0 < n) (h : m + n ≤ 1000000) : x.natAbs.log2 + y.natAbs.log2 < 1000000 := wide_mul h1 h2 hm hn h
theorem log_lt {x : Int} {m : Nat} (h : x.natAbs < 2 ^ m) (h0 : 0 < m) (h9 : m ≤ 9000) : x.natAbs.log2 < 9000 := Nat.lt_of_lt_of_le (PySem.Flt.log2_lt_of h0 h) h9
theorem Eqq.bt {s u : Qo} {n : Nat} (h1 : s.1.natAbs ≤ u.1.natAbs) (h2 : s.2.natAbs ≤ u.2.natAbs) (h : Bt n u) : Bt n s := ⟨Nat.lt_of_le_of_lt h1 h.1, Nat.lt_of_le_of_lt h2 h.2⟩
theorem gcd_lt {a b : Int} {m : Nat} (hb : b ≠ 0) (h : b.natAbs < 2 ^ m) : ((Nat.gcd a.natAbs b.natAbs : Nat) : Int).natAbs < 2 ^ m := by
  rw [Int.natAbs_natCast]
  exact Nat.lt_of_le_of_lt (Nat.gcd_le_right _ (by omega)) h
theorem gcd_ne {a b : Int} (hb : b ≠ 0) : ((Nat.gcd a.natAbs b.natAbs : Nat) : Int) ≠ 0 := by
  have : 0 < Nat.gcd a.natAbs b.natAbs := Nat.gcd_pos_of_pos_right _ (by omega)
  omega
/-! ### shapes of data -/
theorem shp_int (i : Int) : SeqAt.shaped (.int i) = true := rfl
theorem shp_dq (q : Qo) : SeqAt.shaped (dq q) = true := by
  unfold dq
  rfl
theorem eqv_int (i j : Int) : PyData.eqv (.int i) (.int j) = decide (i = j) := by
  simp only [PyData.eqv]
  rw [Bool.eq_iff_iff]; simp
theorem eqv_dq (q r : Qo) : PyData.eqv (dq q) (dq r) = decide (q = r) := by
  obtain ⟨a, b⟩ := q
  obtain ⟨c, d⟩ := r
  simp only [dq, PyData.eqv, PyData.eqvAll, Bool.and_true]
  rw [Bool.eq_iff_iff]
  simp
end Hw
-- K00d
set_option Elab.async false
set_option linter.all false
set_option maxRecDepth 100000
set_option maxHeartbeats 4000000
open PySem L2
namespace K00
open Hw
def topS (i : Nat) : Stmt := PySem.Challenge.pw_hungwall_k00_kinds_quotients_places.main.body.getD i (.Pass ⟨0, 0, 0, 0⟩)
/-- what the top has left of names -/
structure Ads where
  HangError : Addr
  LiveError : Addr
  PaperError : Addr
  PlanError : Addr
  TextError : Addr
  Unfit : Addr
structure Tx (K : PySem.W.Frag) (mg : Str → Option Value) (C fI : Addr) (fdI : FuncData) (ad : Ads) : Prop extends Tx0 K mg C fI fdI where
  m_gcd : mg "gcd" = some (.builtin "math.gcd")
  xc : XcC K C
  b_ValueError : mg "ValueError" = none
  b_abs : mg "abs" = none
  b_all : mg "all" = none
  b_bool : mg "bool" = none
  b_divmod : mg "divmod" = none
  b_int : mg "int" = none
  b_isinstance : mg "isinstance" = none
  b_len : mg "len" = none
  b_list : mg "list" = none
  b_max : mg "max" = none
  b_range : mg "range" = none
  b_reversed : mg "reversed" = none
  b_str : mg "str" = none
  b_tuple : mg "tuple" = none
  m_CHUNK : ∃ t, mg "CHUNK" = some (.int 1000000000000000000 t)
  m_CHUNK_FIGURES : ∃ t, mg "CHUNK_FIGURES" = some (.int 18 t)
  m_LETTERS : ∃ t, mg "LETTERS" = some (.str "WNES" t)
  m_HangError : mg "HangError" = some (.ref ad.HangError)
  k_HangError : PySem.W.kitOne K (.ref C) (.ref ad.HangError) = some true
  m_LiveError : mg "LiveError" = some (.ref ad.LiveError)
  k_LiveError : PySem.W.kitOne K (.ref C) (.ref ad.LiveError) = some false
  m_PaperError : mg "PaperError" = some (.ref ad.PaperError)
  k_PaperError : PySem.W.kitOne K (.ref C) (.ref ad.PaperError) = some false
  m_PlanError : mg "PlanError" = some (.ref ad.PlanError)
  k_PlanError : PySem.W.kitOne K (.ref C) (.ref ad.PlanError) = some true
  m_TextError : mg "TextError" = some (.ref ad.TextError)
  k_TextError : PySem.W.kitOne K (.ref C) (.ref ad.TextError) = some false
  m_Unfit : mg "Unfit" = some (.ref ad.Unfit)
  k_Unfit : PySem.W.kitOne K (.ref C) (.ref ad.Unfit) = some false
  k_ValueError : PySem.W.kitOne K (.ref C) (.type "ValueError") = some true
section
variable {P : Program} {w : World} {K : PySem.W.Frag} {mg : Str → Option Value} {base : Heap} {C fI : Addr} {fdI : FuncData} {ad : Ads}
abbrev s_need : Stmt := topS 15
abbrev N_need : List Str := ["holds", "word"]
theorem sc_need : FnScope N_need ["holds", "word"] (defScope s_need) := ⟨rfl, rfl, rfl, by decide +kernel, rfl, by decide +kernel, by decide +kernel⟩
def w_need (C : Addr) : WS := (wIfS (wNot (wTst (wVar 0)))
  (wRaise2 C "word" "at" (aCons (wVar 1) (aCons (wUn fNeg (wC (.int 1))) aNil)))
  wNext)
theorem d_need {a_need : Addr} (T : Tx K mg C fI fdI ad) : ∀ (cdv : Value) (A : Around) (outer : List Env) (s : Shared) (H : Hp) (E : XK), Room 2 (cxOf (L2N.CX P w) P w K mg base N_need "need" (defScope s_need) a_need cdv A outer s H E).A → L2N.Takes (cxOf (L2N.CX P w) P w K mg base N_need "need" (defScope s_need) a_need cdv A outer s H E) (fun cls d _ H => E cls d H) →
    PSsd (cxOf (L2N.CX P w) P w K mg base N_need "need" (defScope s_need) a_need cdv A outer s H E) (fun cls d _ H => E cls d H) (defBody s_need) (w_need C) := fun cdv A outer s H E hr tk =>
  (psd_one (psd_if (ptd_not (ptd_val (pd_var 0)))
  (psd_one (psd_raise2 rfl tk (pmk_two T.oex T.hi T.ti (T.ini P w base) (hr.mono (by decide)) T.bi passN (by rfl) T.m_C (pad_cons (pd_var 1) (pad_cons (pd_un un_neg und_neg pd_int) pad_nil)))))
  psd_nil))
abbrev s_is_integer : Stmt := topS 17
abbrev N_is_integer : List Str := ["thing"]
theorem sc_is_integer : FnScope N_is_integer ["thing"] (defScope s_is_integer) := ⟨rfl, rfl, rfl, by decide +kernel, rfl, by decide +kernel, by decide +kernel⟩
def w_is_integer  : WS := (wRet (vAnd (wIsi isInt (wVar 0)) (vNot (wIsi isBool (wVar 0)))))
theorem d_is_integer {a_is_integer : Addr} (T : Tx K mg C fI fdI ad) : ∀ (cdv : Value) (A : Around) (outer : List Env) (s : Shared) (H : Hp) (E : XK), Room 0 (cxOf (L2N.CX P w) P w K mg base N_is_integer "is_integer" (defScope s_is_integer) a_is_integer cdv A outer s H E).A → L2N.Takes (cxOf (L2N.CX P w) P w K mg base N_is_integer "is_integer" (defScope s_is_integer) a_is_integer cdv A outer s H E) (fun cls d _ H => E cls d H) →
    PSsd (cxOf (L2N.CX P w) P w K mg base N_is_integer "is_integer" (defScope s_is_integer) a_is_integer cdv A outer s H E) (fun cls d _ H => E cls d H) (defBody s_is_integer) w_is_integer := fun cdv A outer s H E hr tk =>
  (psd_one (psd_ret (pd_and (pd_isi kit_int (by rfl) T.b_isinstance (pd_var 0) (pe_bltn (by rfl) T.b_int (by decide +kernel) rfl)) (pd_one (pd_not (pd_isi kit_bool (by rfl) T.b_isinstance (pd_var 0) (pe_bltn (by rfl) T.b_bool (by decide +kernel) rfl)))))))
abbrev s_is_number : Stmt := topS 18
abbrev N_is_number : List Str := ["thing"]
theorem sc_is_number : FnScope N_is_number ["thing"] (defScope s_is_number) := ⟨rfl, rfl, rfl, by decide +kernel, rfl, by decide +kernel, by decide +kernel⟩
def w_is_number  : WS := (wRet (vAnd (wCall 1 c_is_integer (aCons (wVar 0) aNil)) (wOp fGe (wVar 0) (wC (.int 0)))))
theorem d_is_number {a_is_number : Addr} (T : Tx K mg C fI fdI ad) {a_is_integer : Addr} {fd_is_integer : FuncData} (H_is_integer : Cl P w K mg base 1 "is_integer" s_is_integer ["thing"] 1 c_is_integer a_is_integer fd_is_integer) : ∀ (cdv : Value) (A : Around) (outer : List Env) (s : Shared) (H : Hp) (E : XK), Room 1 (cxOf (L2N.CX P w) P w K mg base N_is_number "is_number" (defScope s_is_number) a_is_number cdv A outer s H E).A → L2N.Takes (cxOf (L2N.CX P w) P w K mg base N_is_number "is_number" (defScope s_is_number) a_is_number cdv A outer s H E) (fun cls d _ H => E cls d H) →
    PSsd (cxOf (L2N.CX P w) P w K mg base N_is_number "is_number" (defScope s_is_number) a_is_number cdv A outer s H E) (fun cls d _ H => E cls d H) (defBody s_is_number) w_is_number := fun cdv A outer s H E hr tk =>
  (psd_one (psd_ret (pd_and (pd_call tk H_is_integer.F (hr.mono (by decide)) (by rfl) H_is_integer.m H_is_integer.kp H_is_integer.b (pad_cons (pd_var 0) pad_nil)) (pd_one (pd_cmp op_ge opd_ge (pd_var 0) pd_int (nomark _))))))
abbrev s_is_quotient : Stmt := topS 19
abbrev N_is_quotient : List Str := ["thing", "top", "bottom"]
theorem sc_is_quotient : FnScope N_is_quotient ["thing"] (defScope s_is_quotient) := ⟨rfl, rfl, rfl, by decide +kernel, rfl, by decide +kernel, by decide +kernel⟩
def w_is_quotient  : WS := (wSeq (wIfS (wOr (wNot (wTst (wIsi isTup (wVar 0)))) (wTst (wOp fNe (wCB fLen (aCons (wVar 0) aNil)) (wC (.int 2)))))
  (wRet (wC (.bool false)))
  wNext)
  (wSeq (wAsgB [1, 2] (bTup 2) (wVar 0))
  (wSeq (wIfS (wOr (wNot (wTst (wCall 1 c_is_integer (aCons (wVar 1) aNil)))) (wNot (wTst (wCall 1 c_is_integer (aCons (wVar 2) aNil)))))
  (wRet (wC (.bool false)))
  wNext)
  (wRet (vAnd (wOp fGe (wVar 2) (wC (.int 1))) (wOp fEq (wCB fGcd (aCons (wVar 1) (aCons (wVar 2) aNil))) (wC (.int 1))))))))
theorem d_is_quotient {a_is_quotient : Addr} (T : Tx K mg C fI fdI ad) {a_is_integer : Addr} {fd_is_integer : FuncData} (H_is_integer : Cl P w K mg base 1 "is_integer" s_is_integer ["thing"] 1 c_is_integer a_is_integer fd_is_integer) : ∀ (cdv : Value) (A : Around) (outer : List Env) (s : Shared) (H : Hp) (E : XK), Room 1 (cxOf (L2N.CX P w) P w K mg base N_is_quotient "is_quotient" (defScope s_is_quotient) a_is_quotient cdv A outer s H E).A → L2N.Takes (cxOf (L2N.CX P w) P w K mg base N_is_quotient "is_quotient" (defScope s_is_quotient) a_is_quotient cdv A outer s H E) (fun cls d _ H => E cls d H) →
    PSsd (cxOf (L2N.CX P w) P w K mg base N_is_quotient "is_quotient" (defScope s_is_quotient) a_is_quotient cdv A outer s H E) (fun cls d _ H => E cls d H) (defBody s_is_quotient) w_is_quotient := fun cdv A outer s H E hr tk =>
  (psd_cons (psd_if (PWd.pt (pwd_or (ptd_not (ptd_val (pd_isi kit_tup (by rfl) T.b_isinstance (pd_var 0) (pe_bltn (by rfl) T.b_tuple (by decide +kernel) rfl)))) (pwd_or1 (ptd_cmp (op_neD hr.units) opd_ne (pd_cb cad_len call_len (by rfl) T.b_len PySem.boot_len (pad_cons (pd_var 0) pad_nil)) pd_int (nomark _)))))
  (psd_one (psd_ret pd_bl))
  psd_nil)
  (psd_cons (psd_setB (ps_asg (pd_var 0) (pg_tup rfl (pgs_cons (pg_name (i := 1) sc_is_quotient.nd rfl (by first | exact Or.inl rfl | exact Or.inr rfl)) (pgs_cons (pg_name (i := 2) sc_is_quotient.nd rfl (by first | exact Or.inl rfl | exact Or.inr rfl)) pgs_nil)))) (bnd_tup (js := [1, 2]) rfl))
  (psd_cons (psd_if (PWd.pt (pwd_or (ptd_not (ptd_val (pd_call tk H_is_integer.F (hr.mono (by decide)) (by rfl) H_is_integer.m H_is_integer.kp H_is_integer.b (pad_cons (pd_var 1) pad_nil)))) (pwd_or1 (ptd_not (ptd_val (pd_call tk H_is_integer.F (hr.mono (by decide)) (by rfl) H_is_integer.m H_is_integer.kp H_is_integer.b (pad_cons (pd_var 2) pad_nil)))))))
  (psd_one (psd_ret pd_bl))
  psd_nil)
  (psd_one (psd_ret (pd_and (pd_cmp op_ge opd_ge (pd_var 2) pd_int (nomark _)) (pd_one (pd_cmp (op_eqD hr.units) opd_eq (pd_cfun cad_gcd cr_gcd (by rfl) T.m_gcd (pad_cons (pd_var 1) (pad_cons (pd_var 2) pad_nil))) pd_int (nomark _)))))))))
abbrev s_is_positive : Stmt := topS 20
abbrev N_is_positive : List Str := ["thing"]
theorem sc_is_positive : FnScope N_is_positive ["thing"] (defScope s_is_positive) := ⟨rfl, rfl, rfl, by decide +kernel, rfl, by decide +kernel, by decide +kernel⟩
def w_is_positive  : WS := (wRet (vAnd (wCall 1 c_is_quotient (aCons (wVar 0) aNil)) (wOp fGt (wOp fIx (wVar 0) (wC (.int 0))) (wC (.int 0)))))
theorem d_is_positive {a_is_positive : Addr} (T : Tx K mg C fI fdI ad) {a_is_quotient : Addr} {fd_is_quotient : FuncData} (H_is_quotient : Cl P w K mg base 2 "is_quotient" s_is_quotient ["thing"] 1 c_is_quotient a_is_quotient fd_is_quotient) : ∀ (cdv : Value) (A : Around) (outer : List Env) (s : Shared) (H : Hp) (E : XK), Room 2 (cxOf (L2N.CX P w) P w K mg base N_is_positive "is_positive" (defScope s_is_positive) a_is_positive cdv A outer s H E).A → L2N.Takes (cxOf (L2N.CX P w) P w K mg base N_is_positive "is_positive" (defScope s_is_positive) a_is_positive cdv A outer s H E) (fun cls d _ H => E cls d H) →
    PSsd (cxOf (L2N.CX P w) P w K mg base N_is_positive "is_positive" (defScope s_is_positive) a_is_positive cdv A outer s H E) (fun cls d _ H => E cls d H) (defBody s_is_positive) w_is_positive := fun cdv A outer s H E hr tk =>
  (psd_one (psd_ret (pd_and (pd_call tk H_is_quotient.F (hr.mono (by decide)) (by rfl) H_is_quotient.m H_is_quotient.kp H_is_quotient.b (pad_cons (pd_var 0) pad_nil)) (pd_one (pd_cmp op_gt opd_gt (pd_ix ix_seq opd_ix (pd_var 0) pd_int (fun _ _ => rfl)) pd_int (nomark _))))))
abbrev s_is_row : Stmt := topS 21
abbrev N_is_row : List Str := ["thing", "part"]
theorem sc_is_row : FnScope N_is_row ["thing"] (defScope s_is_row) := ⟨rfl, rfl, rfl, by decide +kernel, rfl, by decide +kernel, by decide +kernel⟩
def w_is_row  : WS := (wRet (vAnd (wIsi isTup (wVar 0)) (wCB fAll (aCons (wLc (wSeqI (wVar 0)) [1] bName wYes (wCall 1 c_is_quotient (aCons (wVar 1) aNil)) [1]) aNil))))
theorem d_is_row {a_is_row : Addr} (T : Tx K mg C fI fdI ad) {a_is_quotient : Addr} {fd_is_quotient : FuncData} (H_is_quotient : Cl P w K mg base 2 "is_quotient" s_is_quotient ["thing"] 1 c_is_quotient a_is_quotient fd_is_quotient) : ∀ (cdv : Value) (A : Around) (outer : List Env) (s : Shared) (H : Hp) (E : XK), Room 2 (cxOf (L2N.CX P w) P w K mg base N_is_row "is_row" (defScope s_is_row) a_is_row cdv A outer s H E).A → L2N.Takes (cxOf (L2N.CX P w) P w K mg base N_is_row "is_row" (defScope s_is_row) a_is_row cdv A outer s H E) (fun cls d _ H => E cls d H) →
    PSsd (cxOf (L2N.CX P w) P w K mg base N_is_row "is_row" (defScope s_is_row) a_is_row cdv A outer s H E) (fun cls d _ H => E cls d H) (defBody s_is_row) w_is_row := fun cdv A outer s H E hr tk =>
  (psd_one (psd_ret (pd_and (pd_isi kit_tup (by rfl) T.b_isinstance (pd_var 0) (pe_bltn (by rfl) T.b_tuple (by decide +kernel) rfl)) (pd_one (pd_cb cad_all (cr_all rfl) (by rfl) T.b_all (by decide +kernel) (pad_cons (PF.pd (pf_lc (own := [("part", 1)]) (js := [1]) rfl sc_is_row.nd (pid_seq (pd_var 0)) (blkOk_by (N := N_is_row) (sc := defScope s_is_row) (by decide +kernel)) (fun _ _ _ _ _ => (pg_name (i := 1) sc_is_row.nd rfl (by first | exact Or.inl rfl | exact Or.inr rfl))) bnd_name (by decide) (fun _ _ _ _ _ => pts_yes) (fun _ _ _ _ _ => (pd_call takesN0 H_is_quotient.F (hr.mono (by decide)) (by rfl) H_is_quotient.m H_is_quotient.kp H_is_quotient.b (pad_cons (pd_var 1) pad_nil))))) pad_nil))))))
abbrev s_is_shape_row : Stmt := topS 22
abbrev N_is_shape_row : List Str := ["thing", "part"]
theorem sc_is_shape_row : FnScope N_is_shape_row ["thing"] (defScope s_is_shape_row) := ⟨rfl, rfl, rfl, by decide +kernel, rfl, by decide +kernel, by decide +kernel⟩
def w_is_shape_row  : WS := (wRet (vAnd (wCall 1 c_is_row (aCons (wVar 0) aNil)) (wCB fAll (aCons (wLc (wSeqI (wVar 0)) [1] bName wYes (wOp fGt (wOp fIx (wVar 1) (wC (.int 0))) (wC (.int 0))) [1]) aNil))))
theorem d_is_shape_row {a_is_shape_row : Addr} (T : Tx K mg C fI fdI ad) {a_is_row : Addr} {fd_is_row : FuncData} (H_is_row : Cl P w K mg base 3 "is_row" s_is_row ["thing"] 1 c_is_row a_is_row fd_is_row) : ∀ (cdv : Value) (A : Around) (outer : List Env) (s : Shared) (H : Hp) (E : XK), Room 3 (cxOf (L2N.CX P w) P w K mg base N_is_shape_row "is_shape_row" (defScope s_is_shape_row) a_is_shape_row cdv A outer s H E).A → L2N.Takes (cxOf (L2N.CX P w) P w K mg base N_is_shape_row "is_shape_row" (defScope s_is_shape_row) a_is_shape_row cdv A outer s H E) (fun cls d _ H => E cls d H) →
    PSsd (cxOf (L2N.CX P w) P w K mg base N_is_shape_row "is_shape_row" (defScope s_is_shape_row) a_is_shape_row cdv A outer s H E) (fun cls d _ H => E cls d H) (defBody s_is_shape_row) w_is_shape_row := fun cdv A outer s H E hr tk =>
  (psd_one (psd_ret (pd_and (pd_call tk H_is_row.F (hr.mono (by decide)) (by rfl) H_is_row.m H_is_row.kp H_is_row.b (pad_cons (pd_var 0) pad_nil)) (pd_one (pd_cb cad_all (cr_all rfl) (by rfl) T.b_all (by decide +kernel) (pad_cons (PF.pd (pf_lc (own := [("part", 1)]) (js := [1]) rfl sc_is_shape_row.nd (pid_seq (pd_var 0)) (blkOk_by (N := N_is_shape_row) (sc := defScope s_is_shape_row) (by decide +kernel)) (fun _ _ _ _ _ => (pg_name (i := 1) sc_is_shape_row.nd rfl (by first | exact Or.inl rfl | exact Or.inr rfl))) bnd_name (by decide) (fun _ _ _ _ _ => pts_yes) (fun _ _ _ _ _ => (pd_cmp op_gt opd_gt (pd_ix ix_seq opd_ix (pd_var 1) pd_int (fun _ _ => rfl)) pd_int (nomark _))))) pad_nil))))))
abbrev s_is_shapes : Stmt := topS 23
abbrev N_is_shapes : List Str := ["many", "thing"]
theorem sc_is_shapes : FnScope N_is_shapes ["many", "thing"] (defScope s_is_shapes) := ⟨rfl, rfl, rfl, by decide +kernel, rfl, by decide +kernel, by decide +kernel⟩
def w_is_shapes (C : Addr) : WS := (wSeq (wExp (wCall 2 (c_need C) (aCons (wCall 1 c_is_number (aCons (wVar 0) aNil)) (aCons (wC (.str "many")) aNil))))
  (wRet (vAnd (wCall 1 c_is_shape_row (aCons (wVar 1) aNil)) (wOp fEq (wCB fLen (aCons (wVar 1) aNil)) (wVar 0)))))
theorem d_is_shapes {a_is_shapes : Addr} (T : Tx K mg C fI fdI ad) {a_is_shape_row : Addr} {fd_is_shape_row : FuncData} {a_is_number : Addr} {fd_is_number : FuncData} {a_need : Addr} {fd_need : FuncData} (H_need : Cl P w K mg base 3 "need" s_need ["holds", "word"] 2 (c_need C) a_need fd_need) (H_is_number : Cl P w K mg base 2 "is_number" s_is_number ["thing"] 1 c_is_number a_is_number fd_is_number) (H_is_shape_row : Cl P w K mg base 4 "is_shape_row" s_is_shape_row ["thing"] 1 c_is_shape_row a_is_shape_row fd_is_shape_row) : ∀ (cdv : Value) (A : Around) (outer : List Env) (s : Shared) (H : Hp) (E : XK), Room 4 (cxOf (L2N.CX P w) P w K mg base N_is_shapes "is_shapes" (defScope s_is_shapes) a_is_shapes cdv A outer s H E).A → L2N.Takes (cxOf (L2N.CX P w) P w K mg base N_is_shapes "is_shapes" (defScope s_is_shapes) a_is_shapes cdv A outer s H E) (fun cls d _ H => E cls d H) →
    PSsd (cxOf (L2N.CX P w) P w K mg base N_is_shapes "is_shapes" (defScope s_is_shapes) a_is_shapes cdv A outer s H E) (fun cls d _ H => E cls d H) (defBody s_is_shapes) (w_is_shapes C) := fun cdv A outer s H E hr tk =>
  (psd_cons (psd_expr (pd_call tk H_need.F (hr.mono (by decide)) (by rfl) H_need.m H_need.kp H_need.b (pad_cons (pd_call tk H_is_number.F (hr.mono (by decide)) (by rfl) H_is_number.m H_is_number.kp H_is_number.b (pad_cons (pd_var 0) pad_nil)) (pad_cons pd_str pad_nil))))
  (psd_one (psd_ret (pd_and (pd_call tk H_is_shape_row.F (hr.mono (by decide)) (by rfl) H_is_shape_row.m H_is_shape_row.kp H_is_shape_row.b (pad_cons (pd_var 1) pad_nil)) (pd_one (pd_cmp (op_eqD hr.units) opd_eq (pd_cb cad_len call_len (by rfl) T.b_len PySem.boot_len (pad_cons (pd_var 1) pad_nil)) (pd_var 0) (nomark _)))))))
abbrev s_is_table : Stmt := topS 24
abbrev N_is_table : List Str := ["many", "thing", "part"]
theorem sc_is_table : FnScope N_is_table ["many", "thing"] (defScope s_is_table) := ⟨rfl, rfl, rfl, by decide +kernel, rfl, by decide +kernel, by decide +kernel⟩
def w_is_table (C : Addr) : WS := (wSeq (wExp (wCall 2 (c_need C) (aCons (wCall 1 c_is_number (aCons (wVar 0) aNil)) (aCons (wC (.str "many")) aNil))))
  (wRet (vAnd (wCall 1 c_is_row (aCons (wVar 1) aNil)) (vAnd (wOp fEq (wCB fLen (aCons (wVar 1) aNil)) (wVar 0)) (wCB fAll (aCons (wLc (wSeqI (wVar 1)) [2] bName wYes (wOp fGe (wOp fIx (wVar 2) (wC (.int 0))) (wC (.int 0))) [2]) aNil))))))
theorem d_is_table {a_is_table : Addr} (T : Tx K mg C fI fdI ad) {a_is_row : Addr} {fd_is_row : FuncData} {a_is_number : Addr} {fd_is_number : FuncData} {a_need : Addr} {fd_need : FuncData} (H_need : Cl P w K mg base 3 "need" s_need ["holds", "word"] 2 (c_need C) a_need fd_need) (H_is_number : Cl P w K mg base 2 "is_number" s_is_number ["thing"] 1 c_is_number a_is_number fd_is_number) (H_is_row : Cl P w K mg base 3 "is_row" s_is_row ["thing"] 1 c_is_row a_is_row fd_is_row) : ∀ (cdv : Value) (A : Around) (outer : List Env) (s : Shared) (H : Hp) (E : XK), Room 3 (cxOf (L2N.CX P w) P w K mg base N_is_table "is_table" (defScope s_is_table) a_is_table cdv A outer s H E).A → L2N.Takes (cxOf (L2N.CX P w) P w K mg base N_is_table "is_table" (defScope s_is_table) a_is_table cdv A outer s H E) (fun cls d _ H => E cls d H) →
    PSsd (cxOf (L2N.CX P w) P w K mg base N_is_table "is_table" (defScope s_is_table) a_is_table cdv A outer s H E) (fun cls d _ H => E cls d H) (defBody s_is_table) (w_is_table C) := fun cdv A outer s H E hr tk =>
  (psd_cons (psd_expr (pd_call tk H_need.F (hr.mono (by decide)) (by rfl) H_need.m H_need.kp H_need.b (pad_cons (pd_call tk H_is_number.F (hr.mono (by decide)) (by rfl) H_is_number.m H_is_number.kp H_is_number.b (pad_cons (pd_var 0) pad_nil)) (pad_cons pd_str pad_nil))))
  (psd_one (psd_ret (pd_and (pd_call tk H_is_row.F (hr.mono (by decide)) (by rfl) H_is_row.m H_is_row.kp H_is_row.b (pad_cons (pd_var 1) pad_nil)) (pd_and (pd_cmp (op_eqD hr.units) opd_eq (pd_cb cad_len call_len (by rfl) T.b_len PySem.boot_len (pad_cons (pd_var 1) pad_nil)) (pd_var 0) (nomark _)) (pd_one (pd_cb cad_all (cr_all rfl) (by rfl) T.b_all (by decide +kernel) (pad_cons (PF.pd (pf_lc (own := [("part", 2)]) (js := [2]) rfl sc_is_table.nd (pid_seq (pd_var 1)) (blkOk_by (N := N_is_table) (sc := defScope s_is_table) (by decide +kernel)) (fun _ _ _ _ _ => (pg_name (i := 2) sc_is_table.nd rfl (by first | exact Or.inl rfl | exact Or.inr rfl))) bnd_name (by decide) (fun _ _ _ _ _ => pts_yes) (fun _ _ _ _ _ => (pd_cmp op_ge opd_ge (pd_ix ix_seq opd_ix (pd_var 2) pd_int (fun _ _ => rfl)) pd_int (nomark _))))) pad_nil))))))))
abbrev s_is_side : Stmt := topS 29
abbrev N_is_side : List Str := ["thing"]
theorem sc_is_side : FnScope N_is_side ["thing"] (defScope s_is_side) := ⟨rfl, rfl, rfl, by decide +kernel, rfl, by decide +kernel, by decide +kernel⟩
def w_is_side  : WS := (wRet (vAnd (wCall 1 c_is_integer (aCons (wVar 0) aNil)) (wChain fLe fLe (wUn fNeg (wC (.int 4))) (wVar 0) (wUn fNeg (wC (.int 1))))))
theorem d_is_side {a_is_side : Addr} (T : Tx K mg C fI fdI ad) {a_is_integer : Addr} {fd_is_integer : FuncData} (H_is_integer : Cl P w K mg base 1 "is_integer" s_is_integer ["thing"] 1 c_is_integer a_is_integer fd_is_integer) : ∀ (cdv : Value) (A : Around) (outer : List Env) (s : Shared) (H : Hp) (E : XK), Room 1 (cxOf (L2N.CX P w) P w K mg base N_is_side "is_side" (defScope s_is_side) a_is_side cdv A outer s H E).A → L2N.Takes (cxOf (L2N.CX P w) P w K mg base N_is_side "is_side" (defScope s_is_side) a_is_side cdv A outer s H E) (fun cls d _ H => E cls d H) →
    PSsd (cxOf (L2N.CX P w) P w K mg base N_is_side "is_side" (defScope s_is_side) a_is_side cdv A outer s H E) (fun cls d _ H => E cls d H) (defBody s_is_side) w_is_side := fun cdv A outer s H E hr tk =>
  (psd_one (psd_ret (pd_and (pd_call tk H_is_integer.F (hr.mono (by decide)) (by rfl) H_is_integer.m H_is_integer.kp H_is_integer.b (pad_cons (pd_var 0) pad_nil)) (pd_one (pd_chain op_le op_le opd_le opd_le (pd_un un_neg und_neg pd_int) (pd_var 0) (pd_un un_neg und_neg pd_int))))))
abbrev s_is_picture : Stmt := topS 30
abbrev N_is_picture : List Str := ["many", "thing"]
theorem sc_is_picture : FnScope N_is_picture ["many", "thing"] (defScope s_is_picture) := ⟨rfl, rfl, rfl, by decide +kernel, rfl, by decide +kernel, by decide +kernel⟩
def w_is_picture  : WS := (wRet (vAnd (wCall 1 c_is_integer (aCons (wVar 1) aNil)) (wChain fLe fLt (wC (.int 0)) (wVar 1) (wVar 0))))
theorem d_is_picture {a_is_picture : Addr} (T : Tx K mg C fI fdI ad) {a_is_integer : Addr} {fd_is_integer : FuncData} (H_is_integer : Cl P w K mg base 1 "is_integer" s_is_integer ["thing"] 1 c_is_integer a_is_integer fd_is_integer) : ∀ (cdv : Value) (A : Around) (outer : List Env) (s : Shared) (H : Hp) (E : XK), Room 1 (cxOf (L2N.CX P w) P w K mg base N_is_picture "is_picture" (defScope s_is_picture) a_is_picture cdv A outer s H E).A → L2N.Takes (cxOf (L2N.CX P w) P w K mg base N_is_picture "is_picture" (defScope s_is_picture) a_is_picture cdv A outer s H E) (fun cls d _ H => E cls d H) →
    PSsd (cxOf (L2N.CX P w) P w K mg base N_is_picture "is_picture" (defScope s_is_picture) a_is_picture cdv A outer s H E) (fun cls d _ H => E cls d H) (defBody s_is_picture) w_is_picture := fun cdv A outer s H E hr tk =>
  (psd_one (psd_ret (pd_and (pd_call tk H_is_integer.F (hr.mono (by decide)) (by rfl) H_is_integer.m H_is_integer.kp H_is_integer.b (pad_cons (pd_var 1) pad_nil)) (pd_one (pd_chain op_le op_lt opd_le opd_lt pd_int (pd_var 1) (pd_var 0))))))
abbrev s_side_after : Stmt := topS 31
abbrev N_side_after : List Str := ["side"]
theorem sc_side_after : FnScope N_side_after ["side"] (defScope s_side_after) := ⟨rfl, rfl, rfl, by decide +kernel, rfl, by decide +kernel, by decide +kernel⟩
def w_side_after (C : Addr) : WS := (wSeq (wExp (wCall 2 (c_need C) (aCons (wCall 1 c_is_side (aCons (wVar 0) aNil)) (aCons (wC (.str "side")) aNil))))
  (wRet (wOp fSub (wOp fMod (wOp fAdd (wVar 0) (wC (.int 5))) (wC (.int 4))) (wC (.int 4)))))
theorem d_side_after {a_side_after : Addr} (T : Tx K mg C fI fdI ad) {a_is_side : Addr} {fd_is_side : FuncData} {a_need : Addr} {fd_need : FuncData} (H_need : Cl P w K mg base 3 "need" s_need ["holds", "word"] 2 (c_need C) a_need fd_need) (H_is_side : Cl P w K mg base 2 "is_side" s_is_side ["thing"] 1 c_is_side a_is_side fd_is_side) : ∀ (cdv : Value) (A : Around) (outer : List Env) (s : Shared) (H : Hp) (E : XK), Room 3 (cxOf (L2N.CX P w) P w K mg base N_side_after "side_after" (defScope s_side_after) a_side_after cdv A outer s H E).A → L2N.Takes (cxOf (L2N.CX P w) P w K mg base N_side_after "side_after" (defScope s_side_after) a_side_after cdv A outer s H E) (fun cls d _ H => E cls d H) →
    PSsd (cxOf (L2N.CX P w) P w K mg base N_side_after "side_after" (defScope s_side_after) a_side_after cdv A outer s H E) (fun cls d _ H => E cls d H) (defBody s_side_after) (w_side_after C) := fun cdv A outer s H E hr tk =>
  (psd_cons (psd_expr (pd_call tk H_need.F (hr.mono (by decide)) (by rfl) H_need.m H_need.kp H_need.b (pad_cons (pd_call tk H_is_side.F (hr.mono (by decide)) (by rfl) H_is_side.m H_is_side.kp H_is_side.b (pad_cons (pd_var 0) pad_nil)) (pad_cons pd_str pad_nil))))
  (psd_one (psd_ret (pd_op op_sub opd_sub (pd_op op_mod opd_mod (pd_op op_addA opd_add (pd_var 0) pd_int) pd_int) pd_int))))
abbrev s_side_opposite : Stmt := topS 32
abbrev N_side_opposite : List Str := ["side"]
theorem sc_side_opposite : FnScope N_side_opposite ["side"] (defScope s_side_opposite) := ⟨rfl, rfl, rfl, by decide +kernel, rfl, by decide +kernel, by decide +kernel⟩
def w_side_opposite (C : Addr) : WS := (wSeq (wExp (wCall 2 (c_need C) (aCons (wCall 1 c_is_side (aCons (wVar 0) aNil)) (aCons (wC (.str "side")) aNil))))
  (wRet (wOp fSub (wOp fMod (wOp fAdd (wVar 0) (wC (.int 6))) (wC (.int 4))) (wC (.int 4)))))
theorem d_side_opposite {a_side_opposite : Addr} (T : Tx K mg C fI fdI ad) {a_is_side : Addr} {fd_is_side : FuncData} {a_need : Addr} {fd_need : FuncData} (H_need : Cl P w K mg base 3 "need" s_need ["holds", "word"] 2 (c_need C) a_need fd_need) (H_is_side : Cl P w K mg base 2 "is_side" s_is_side ["thing"] 1 c_is_side a_is_side fd_is_side) : ∀ (cdv : Value) (A : Around) (outer : List Env) (s : Shared) (H : Hp) (E : XK), Room 3 (cxOf (L2N.CX P w) P w K mg base N_side_opposite "side_opposite" (defScope s_side_opposite) a_side_opposite cdv A outer s H E).A → L2N.Takes (cxOf (L2N.CX P w) P w K mg base N_side_opposite "side_opposite" (defScope s_side_opposite) a_side_opposite cdv A outer s H E) (fun cls d _ H => E cls d H) →
    PSsd (cxOf (L2N.CX P w) P w K mg base N_side_opposite "side_opposite" (defScope s_side_opposite) a_side_opposite cdv A outer s H E) (fun cls d _ H => E cls d H) (defBody s_side_opposite) (w_side_opposite C) := fun cdv A outer s H E hr tk =>
  (psd_cons (psd_expr (pd_call tk H_need.F (hr.mono (by decide)) (by rfl) H_need.m H_need.kp H_need.b (pad_cons (pd_call tk H_is_side.F (hr.mono (by decide)) (by rfl) H_is_side.m H_is_side.kp H_is_side.b (pad_cons (pd_var 0) pad_nil)) (pad_cons pd_str pad_nil))))
  (psd_one (psd_ret (pd_op op_sub opd_sub (pd_op op_mod opd_mod (pd_op op_addA opd_add (pd_var 0) pd_int) pd_int) pd_int))))
abbrev s_is_place_among : Stmt := topS 33
abbrev N_is_place_among : List Str := ["many", "thing"]
theorem sc_is_place_among : FnScope N_is_place_among ["many", "thing"] (defScope s_is_place_among) := ⟨rfl, rfl, rfl, by decide +kernel, rfl, by decide +kernel, by decide +kernel⟩
def w_is_place_among  : WS := (wRet (vOr (wCall 1 c_is_side (aCons (wVar 1) aNil)) (wCall 2 c_is_picture (aCons (wVar 0) (aCons (wVar 1) aNil)))))
theorem d_is_place_among {a_is_place_among : Addr} (T : Tx K mg C fI fdI ad) {a_is_picture : Addr} {fd_is_picture : FuncData} {a_is_side : Addr} {fd_is_side : FuncData} (H_is_side : Cl P w K mg base 2 "is_side" s_is_side ["thing"] 1 c_is_side a_is_side fd_is_side) (H_is_picture : Cl P w K mg base 2 "is_picture" s_is_picture ["many", "thing"] 2 c_is_picture a_is_picture fd_is_picture) : ∀ (cdv : Value) (A : Around) (outer : List Env) (s : Shared) (H : Hp) (E : XK), Room 2 (cxOf (L2N.CX P w) P w K mg base N_is_place_among "is_place_among" (defScope s_is_place_among) a_is_place_among cdv A outer s H E).A → L2N.Takes (cxOf (L2N.CX P w) P w K mg base N_is_place_among "is_place_among" (defScope s_is_place_among) a_is_place_among cdv A outer s H E) (fun cls d _ H => E cls d H) →
    PSsd (cxOf (L2N.CX P w) P w K mg base N_is_place_among "is_place_among" (defScope s_is_place_among) a_is_place_among cdv A outer s H E) (fun cls d _ H => E cls d H) (defBody s_is_place_among) w_is_place_among := fun cdv A outer s H E hr tk =>
  (psd_one (psd_ret (pd_or (pd_call tk H_is_side.F (hr.mono (by decide)) (by rfl) H_is_side.m H_is_side.kp H_is_side.b (pad_cons (pd_var 1) pad_nil)) (pd_one (pd_call tk H_is_picture.F (hr.mono (by decide)) (by rfl) H_is_picture.m H_is_picture.kp H_is_picture.b (pad_cons (pd_var 0) (pad_cons (pd_var 1) pad_nil)))))))
abbrev s_is_place : Stmt := topS 34
abbrev N_is_place : List Str := ["many", "thing"]
theorem sc_is_place : FnScope N_is_place ["many", "thing"] (defScope s_is_place) := ⟨rfl, rfl, rfl, by decide +kernel, rfl, by decide +kernel, by decide +kernel⟩
def w_is_place (C : Addr) : WS := (wSeq (wExp (wCall 2 (c_need C) (aCons (wCall 1 c_is_number (aCons (wVar 0) aNil)) (aCons (wC (.str "many")) aNil))))
  (wRet (wCall 2 c_is_place_among (aCons (wVar 0) (aCons (wVar 1) aNil)))))
theorem d_is_place {a_is_place : Addr} (T : Tx K mg C fI fdI ad) {a_is_number : Addr} {fd_is_number : FuncData} {a_is_place_among : Addr} {fd_is_place_among : FuncData} {a_need : Addr} {fd_need : FuncData} (H_need : Cl P w K mg base 3 "need" s_need ["holds", "word"] 2 (c_need C) a_need fd_need) (H_is_place_among : Cl P w K mg base 3 "is_place_among" s_is_place_among ["many", "thing"] 2 c_is_place_among a_is_place_among fd_is_place_among) (H_is_number : Cl P w K mg base 2 "is_number" s_is_number ["thing"] 1 c_is_number a_is_number fd_is_number) : ∀ (cdv : Value) (A : Around) (outer : List Env) (s : Shared) (H : Hp) (E : XK), Room 3 (cxOf (L2N.CX P w) P w K mg base N_is_place "is_place" (defScope s_is_place) a_is_place cdv A outer s H E).A → L2N.Takes (cxOf (L2N.CX P w) P w K mg base N_is_place "is_place" (defScope s_is_place) a_is_place cdv A outer s H E) (fun cls d _ H => E cls d H) →
    PSsd (cxOf (L2N.CX P w) P w K mg base N_is_place "is_place" (defScope s_is_place) a_is_place cdv A outer s H E) (fun cls d _ H => E cls d H) (defBody s_is_place) (w_is_place C) := fun cdv A outer s H E hr tk =>
  (psd_cons (psd_expr (pd_call tk H_need.F (hr.mono (by decide)) (by rfl) H_need.m H_need.kp H_need.b (pad_cons (pd_call tk H_is_number.F (hr.mono (by decide)) (by rfl) H_is_number.m H_is_number.kp H_is_number.b (pad_cons (pd_var 0) pad_nil)) (pad_cons pd_str pad_nil))))
  (psd_one (psd_ret (pd_call tk H_is_place_among.F (hr.mono (by decide)) (by rfl) H_is_place_among.m H_is_place_among.kp H_is_place_among.b (pad_cons (pd_var 0) (pad_cons (pd_var 1) pad_nil))))))
abbrev s_decimal : Stmt := topS 35
abbrev N_decimal : List Str := ["number", "parts", "rest"]
theorem sc_decimal : FnScope N_decimal ["number"] (defScope s_decimal) := ⟨rfl, rfl, rfl, by decide +kernel, rfl, by decide +kernel, by decide +kernel⟩
def w_decimal  : WS := (wSeq (wAsgC 1 (wLst aNil))
  (wSeq (wWhile (wTst (wOp fGe (wVar 0) (wC (.int 1000000000000000000))))
  (wSeq (wAsgB [0, 2] (bTup 2) (wCB fDivm (aCons (wVar 0) (aCons (wC (.int 1000000000000000000)) aNil))))
  (wApp 1 (wZf (wCB fStrI (aCons (wVar 2) aNil)) (wC (.int 18))))))
  (wSeq (wApp 1 (wCB fStrI (aCons (wVar 0) aNil)))
  (wRet (wJoinRev "" 1)))))
theorem d_decimal {a_decimal : Addr} (T : Tx K mg C fI fdI ad) : ∀ (cdv : Value) (A : Around) (outer : List Env) (s : Shared) (H : Hp) (E : XK), Room 0 (cxOf (L2N.CX P w) P w K mg base N_decimal "decimal" (defScope s_decimal) a_decimal cdv A outer s H E).A → L2N.Takes (cxOf (L2N.CX P w) P w K mg base N_decimal "decimal" (defScope s_decimal) a_decimal cdv A outer s H E) (fun cls d _ H => E cls d H) →
    PSsd (cxOf (L2N.CX P w) P w K mg base N_decimal "decimal" (defScope s_decimal) a_decimal cdv A outer s H E) (fun cls d _ H => E cls d H) (defBody s_decimal) w_decimal := fun cdv A outer s H E hr tk =>
  (psd_cons (psd_setC sc_decimal.nd rfl (by first | exact Or.inl rfl | exact Or.inr rfl) (pf_lst pad_nil))
  (psd_cons (psd_while .leaving (ptd_cmp op_ge opd_ge (pd_var 0) (pd_gint (by rfl) T.m_CHUNK) (nomark _))
  (psd_cons (psd_setB (ps_asg (pd_cb cad_divm call_divmodW (by rfl) T.b_divmod (by decide +kernel) (pad_cons (pd_var 0) (pad_cons (pd_gint (by rfl) T.m_CHUNK) pad_nil))) (pg_tup rfl (pgs_cons (pg_name (i := 0) sc_decimal.nd rfl (by first | exact Or.inl rfl | exact Or.inr rfl)) (pgs_cons (pg_name (i := 2) sc_decimal.nd rfl (by first | exact Or.inl rfl | exact Or.inr rfl)) pgs_nil)))) (bnd_tup (js := [0, 2]) rfl))
  (psd_one (psd_app 1 (ps_expr (pe_bm PySem.F.plainAttrs_list PySem.F.slot_list_append PySem.F.type_list_append mt_append (pv 1) (pa_cons (pd_zfill (pd_cty cad_strI call_str_int (by rfl) T.b_str (by decide +kernel) (pad_cons (pd_var 2) pad_nil)) (pd_gint (by rfl) T.m_CHUNK_FIGURES)) pa_nil)))))))
  (psd_cons (psd_app 1 (ps_expr (pe_bm PySem.F.plainAttrs_list PySem.F.slot_list_append PySem.F.type_list_append mt_append (pv 1) (pa_cons (pd_cty cad_strI call_str_int (by rfl) T.b_str (by decide +kernel) (pad_cons (pd_var 0) pad_nil)) pa_nil))))
  (psd_one (psd_ret (pd_joinRev rfl 1 (by rfl) T.b_reversed (pv 1)))))))
abbrev s_place_letter : Stmt := topS 36
abbrev N_place_letter : List Str := ["place"]
theorem sc_place_letter : FnScope N_place_letter ["place"] (defScope s_place_letter) := ⟨rfl, rfl, rfl, by decide +kernel, rfl, by decide +kernel, by decide +kernel⟩
def w_place_letter (C : Addr) : WS := (wSeq (wExp (wCall 2 (c_need C) (aCons (vOr (wCall 1 c_is_side (aCons (wVar 0) aNil)) (wCall 1 c_is_number (aCons (wVar 0) aNil))) (aCons (wC (.str "place")) aNil))))
  (wSeq (wIfS (wTst (wOp fLt (wVar 0) (wC (.int 0))))
  (wRet (wOp fIx (wC (.str "WNES")) (wOp fAdd (wVar 0) (wC (.int 4)))))
  wNext)
  (wRet (wCall 1 c_decimal (aCons (wVar 0) aNil)))))
theorem d_place_letter {a_place_letter : Addr} (T : Tx K mg C fI fdI ad) {a_is_number : Addr} {fd_is_number : FuncData} {a_is_side : Addr} {fd_is_side : FuncData} {a_decimal : Addr} {fd_decimal : FuncData} {a_need : Addr} {fd_need : FuncData} (H_need : Cl P w K mg base 3 "need" s_need ["holds", "word"] 2 (c_need C) a_need fd_need) (H_decimal : Cl P w K mg base 1 "decimal" s_decimal ["number"] 1 c_decimal a_decimal fd_decimal) (H_is_side : Cl P w K mg base 2 "is_side" s_is_side ["thing"] 1 c_is_side a_is_side fd_is_side) (H_is_number : Cl P w K mg base 2 "is_number" s_is_number ["thing"] 1 c_is_number a_is_number fd_is_number) : ∀ (cdv : Value) (A : Around) (outer : List Env) (s : Shared) (H : Hp) (E : XK), Room 3 (cxOf (L2N.CX P w) P w K mg base N_place_letter "place_letter" (defScope s_place_letter) a_place_letter cdv A outer s H E).A → L2N.Takes (cxOf (L2N.CX P w) P w K mg base N_place_letter "place_letter" (defScope s_place_letter) a_place_letter cdv A outer s H E) (fun cls d _ H => E cls d H) →
    PSsd (cxOf (L2N.CX P w) P w K mg base N_place_letter "place_letter" (defScope s_place_letter) a_place_letter cdv A outer s H E) (fun cls d _ H => E cls d H) (defBody s_place_letter) (w_place_letter C) := fun cdv A outer s H E hr tk =>
  (psd_cons (psd_expr (pd_call tk H_need.F (hr.mono (by decide)) (by rfl) H_need.m H_need.kp H_need.b (pad_cons (pd_or (pd_call tk H_is_side.F (hr.mono (by decide)) (by rfl) H_is_side.m H_is_side.kp H_is_side.b (pad_cons (pd_var 0) pad_nil)) (pd_one (pd_call tk H_is_number.F (hr.mono (by decide)) (by rfl) H_is_number.m H_is_number.kp H_is_number.b (pad_cons (pd_var 0) pad_nil)))) (pad_cons pd_str pad_nil))))
  (psd_cons (psd_if (ptd_cmp op_lt opd_lt (pd_var 0) pd_int (nomark _))
  (psd_one (psd_ret (pd_ix ix_seq opd_ix (pd_gstr (by rfl) T.m_LETTERS) (pd_op op_addA opd_add (pd_var 0) pd_int) (fun _ _ => rfl))))
  psd_nil)
  (psd_one (psd_ret (pd_call tk H_decimal.F (hr.mono (by decide)) (by rfl) H_decimal.m H_decimal.kp H_decimal.b (pad_cons (pd_var 0) pad_nil))))))
abbrev s_reduced : Stmt := topS 38
abbrev N_reduced : List Str := ["top", "bottom", "shared"]
theorem sc_reduced : FnScope N_reduced ["top", "bottom"] (defScope s_reduced) := ⟨rfl, rfl, rfl, by decide +kernel, rfl, by decide +kernel, by decide +kernel⟩
def w_reduced  : WS := (wSeq (wAsg 2 (wCB fGcd (aCons (wVar 0) (aCons (wVar 1) aNil))))
  (wSeq (wIfS (wTst (wOp fLt (wVar 1) (wC (.int 0))))
  (wAsg 2 (wUn fNeg (wVar 2)))
  wNext)
  (wRet (wTup (aCons (wOp fDiv (wVar 0) (wVar 2)) (aCons (wOp fDiv (wVar 1) (wVar 2)) aNil))))))
theorem d_reduced {a_reduced : Addr} (T : Tx K mg C fI fdI ad) : ∀ (cdv : Value) (A : Around) (outer : List Env) (s : Shared) (H : Hp) (E : XK), Room 0 (cxOf (L2N.CX P w) P w K mg base N_reduced "reduced" (defScope s_reduced) a_reduced cdv A outer s H E).A → L2N.Takes (cxOf (L2N.CX P w) P w K mg base N_reduced "reduced" (defScope s_reduced) a_reduced cdv A outer s H E) (fun cls d _ H => E cls d H) →
    PSsd (cxOf (L2N.CX P w) P w K mg base N_reduced "reduced" (defScope s_reduced) a_reduced cdv A outer s H E) (fun cls d _ H => E cls d H) (defBody s_reduced) w_reduced := fun cdv A outer s H E hr tk =>
  (psd_cons (psd_set sc_reduced.nd rfl (by first | exact Or.inl rfl | exact Or.inr rfl) (pd_cfun cad_gcd cr_gcd (by rfl) T.m_gcd (pad_cons (pd_var 0) (pad_cons (pd_var 1) pad_nil))))
  (psd_cons (psd_if (ptd_cmp op_lt opd_lt (pd_var 1) pd_int (nomark _))
  (psd_one (psd_set sc_reduced.nd rfl (by first | exact Or.inl rfl | exact Or.inr rfl) (pd_un un_neg und_neg (pd_var 2))))
  psd_nil)
  (psd_one (psd_ret (pd_tup (pad_cons (pd_op op_fdivX opd_div (pd_var 0) (pd_var 2)) (pad_cons (pd_op op_fdivX opd_div (pd_var 1) (pd_var 2)) pad_nil)))))))
abbrev s_sum_of_two : Stmt := topS 39
abbrev N_sum_of_two : List Str := ["one", "other"]
theorem sc_sum_of_two : FnScope N_sum_of_two ["one", "other"] (defScope s_sum_of_two) := ⟨rfl, rfl, rfl, by decide +kernel, rfl, by decide +kernel, by decide +kernel⟩
def w_sum_of_two  : WS := (wRet (wCall 2 c_reduced (aCons (wOp fAdd (wOp fMulA (wOp fIx (wVar 0) (wC (.int 0))) (wOp fIx (wVar 1) (wC (.int 1)))) (wOp fMulA (wOp fIx (wVar 1) (wC (.int 0))) (wOp fIx (wVar 0) (wC (.int 1))))) (aCons (wOp fMulA (wOp fIx (wVar 0) (wC (.int 1))) (wOp fIx (wVar 1) (wC (.int 1)))) aNil))))
theorem d_sum_of_two {a_sum_of_two : Addr} (T : Tx K mg C fI fdI ad) {a_reduced : Addr} {fd_reduced : FuncData} (H_reduced : Cl P w K mg base 1 "reduced" s_reduced ["top", "bottom"] 2 c_reduced a_reduced fd_reduced) : ∀ (cdv : Value) (A : Around) (outer : List Env) (s : Shared) (H : Hp) (E : XK), Room 1 (cxOf (L2N.CX P w) P w K mg base N_sum_of_two "sum_of_two" (defScope s_sum_of_two) a_sum_of_two cdv A outer s H E).A → L2N.Takes (cxOf (L2N.CX P w) P w K mg base N_sum_of_two "sum_of_two" (defScope s_sum_of_two) a_sum_of_two cdv A outer s H E) (fun cls d _ H => E cls d H) →
    PSsd (cxOf (L2N.CX P w) P w K mg base N_sum_of_two "sum_of_two" (defScope s_sum_of_two) a_sum_of_two cdv A outer s H E) (fun cls d _ H => E cls d H) (defBody s_sum_of_two) w_sum_of_two := fun cdv A outer s H E hr tk =>
  (psd_one (psd_ret (pd_call tk H_reduced.F (hr.mono (by decide)) (by rfl) H_reduced.m H_reduced.kp H_reduced.b (pad_cons (pd_op op_addA opd_add (pd_op op_mulA opd_mulA (pd_ix ix_seq opd_ix (pd_var 0) pd_int (fun _ _ => rfl)) (pd_ix ix_seq opd_ix (pd_var 1) pd_int (fun _ _ => rfl))) (pd_op op_mulA opd_mulA (pd_ix ix_seq opd_ix (pd_var 1) pd_int (fun _ _ => rfl)) (pd_ix ix_seq opd_ix (pd_var 0) pd_int (fun _ _ => rfl)))) (pad_cons (pd_op op_mulA opd_mulA (pd_ix ix_seq opd_ix (pd_var 0) pd_int (fun _ _ => rfl)) (pd_ix ix_seq opd_ix (pd_var 1) pd_int (fun _ _ => rfl))) pad_nil)))))
abbrev s_product_of_two : Stmt := topS 40
abbrev N_product_of_two : List Str := ["one", "other"]
theorem sc_product_of_two : FnScope N_product_of_two ["one", "other"] (defScope s_product_of_two) := ⟨rfl, rfl, rfl, by decide +kernel, rfl, by decide +kernel, by decide +kernel⟩
def w_product_of_two  : WS := (wRet (wCall 2 c_reduced (aCons (wOp fMulA (wOp fIx (wVar 0) (wC (.int 0))) (wOp fIx (wVar 1) (wC (.int 0)))) (aCons (wOp fMulA (wOp fIx (wVar 0) (wC (.int 1))) (wOp fIx (wVar 1) (wC (.int 1)))) aNil))))
theorem d_product_of_two {a_product_of_two : Addr} (T : Tx K mg C fI fdI ad) {a_reduced : Addr} {fd_reduced : FuncData} (H_reduced : Cl P w K mg base 1 "reduced" s_reduced ["top", "bottom"] 2 c_reduced a_reduced fd_reduced) : ∀ (cdv : Value) (A : Around) (outer : List Env) (s : Shared) (H : Hp) (E : XK), Room 1 (cxOf (L2N.CX P w) P w K mg base N_product_of_two "product_of_two" (defScope s_product_of_two) a_product_of_two cdv A outer s H E).A → L2N.Takes (cxOf (L2N.CX P w) P w K mg base N_product_of_two "product_of_two" (defScope s_product_of_two) a_product_of_two cdv A outer s H E) (fun cls d _ H => E cls d H) →
    PSsd (cxOf (L2N.CX P w) P w K mg base N_product_of_two "product_of_two" (defScope s_product_of_two) a_product_of_two cdv A outer s H E) (fun cls d _ H => E cls d H) (defBody s_product_of_two) w_product_of_two := fun cdv A outer s H E hr tk =>
  (psd_one (psd_ret (pd_call tk H_reduced.F (hr.mono (by decide)) (by rfl) H_reduced.m H_reduced.kp H_reduced.b (pad_cons (pd_op op_mulA opd_mulA (pd_ix ix_seq opd_ix (pd_var 0) pd_int (fun _ _ => rfl)) (pd_ix ix_seq opd_ix (pd_var 1) pd_int (fun _ _ => rfl))) (pad_cons (pd_op op_mulA opd_mulA (pd_ix ix_seq opd_ix (pd_var 0) pd_int (fun _ _ => rfl)) (pd_ix ix_seq opd_ix (pd_var 1) pd_int (fun _ _ => rfl))) pad_nil)))))
abbrev s_difference_of_two : Stmt := topS 41
abbrev N_difference_of_two : List Str := ["one", "other"]
theorem sc_difference_of_two : FnScope N_difference_of_two ["one", "other"] (defScope s_difference_of_two) := ⟨rfl, rfl, rfl, by decide +kernel, rfl, by decide +kernel, by decide +kernel⟩
def w_difference_of_two  : WS := (wRet (wCall 2 c_reduced (aCons (wOp fSub (wOp fMulA (wOp fIx (wVar 0) (wC (.int 0))) (wOp fIx (wVar 1) (wC (.int 1)))) (wOp fMulA (wOp fIx (wVar 1) (wC (.int 0))) (wOp fIx (wVar 0) (wC (.int 1))))) (aCons (wOp fMulA (wOp fIx (wVar 0) (wC (.int 1))) (wOp fIx (wVar 1) (wC (.int 1)))) aNil))))
theorem d_difference_of_two {a_difference_of_two : Addr} (T : Tx K mg C fI fdI ad) {a_reduced : Addr} {fd_reduced : FuncData} (H_reduced : Cl P w K mg base 1 "reduced" s_reduced ["top", "bottom"] 2 c_reduced a_reduced fd_reduced) : ∀ (cdv : Value) (A : Around) (outer : List Env) (s : Shared) (H : Hp) (E : XK), Room 1 (cxOf (L2N.CX P w) P w K mg base N_difference_of_two "difference_of_two" (defScope s_difference_of_two) a_difference_of_two cdv A outer s H E).A → L2N.Takes (cxOf (L2N.CX P w) P w K mg base N_difference_of_two "difference_of_two" (defScope s_difference_of_two) a_difference_of_two cdv A outer s H E) (fun cls d _ H => E cls d H) →
    PSsd (cxOf (L2N.CX P w) P w K mg base N_difference_of_two "difference_of_two" (defScope s_difference_of_two) a_difference_of_two cdv A outer s H E) (fun cls d _ H => E cls d H) (defBody s_difference_of_two) w_difference_of_two := fun cdv A outer s H E hr tk =>
  (psd_one (psd_ret (pd_call tk H_reduced.F (hr.mono (by decide)) (by rfl) H_reduced.m H_reduced.kp H_reduced.b (pad_cons (pd_op op_sub opd_sub (pd_op op_mulA opd_mulA (pd_ix ix_seq opd_ix (pd_var 0) pd_int (fun _ _ => rfl)) (pd_ix ix_seq opd_ix (pd_var 1) pd_int (fun _ _ => rfl))) (pd_op op_mulA opd_mulA (pd_ix ix_seq opd_ix (pd_var 1) pd_int (fun _ _ => rfl)) (pd_ix ix_seq opd_ix (pd_var 0) pd_int (fun _ _ => rfl)))) (pad_cons (pd_op op_mulA opd_mulA (pd_ix ix_seq opd_ix (pd_var 0) pd_int (fun _ _ => rfl)) (pd_ix ix_seq opd_ix (pd_var 1) pd_int (fun _ _ => rfl))) pad_nil)))))
abbrev s_ratio_of_two : Stmt := topS 42
abbrev N_ratio_of_two : List Str := ["one", "other"]
theorem sc_ratio_of_two : FnScope N_ratio_of_two ["one", "other"] (defScope s_ratio_of_two) := ⟨rfl, rfl, rfl, by decide +kernel, rfl, by decide +kernel, by decide +kernel⟩
def w_ratio_of_two  : WS := (wRet (wCall 2 c_reduced (aCons (wOp fMulA (wOp fIx (wVar 0) (wC (.int 0))) (wOp fIx (wVar 1) (wC (.int 1)))) (aCons (wOp fMulA (wOp fIx (wVar 0) (wC (.int 1))) (wOp fIx (wVar 1) (wC (.int 0)))) aNil))))
theorem d_ratio_of_two {a_ratio_of_two : Addr} (T : Tx K mg C fI fdI ad) {a_reduced : Addr} {fd_reduced : FuncData} (H_reduced : Cl P w K mg base 1 "reduced" s_reduced ["top", "bottom"] 2 c_reduced a_reduced fd_reduced) : ∀ (cdv : Value) (A : Around) (outer : List Env) (s : Shared) (H : Hp) (E : XK), Room 1 (cxOf (L2N.CX P w) P w K mg base N_ratio_of_two "ratio_of_two" (defScope s_ratio_of_two) a_ratio_of_two cdv A outer s H E).A → L2N.Takes (cxOf (L2N.CX P w) P w K mg base N_ratio_of_two "ratio_of_two" (defScope s_ratio_of_two) a_ratio_of_two cdv A outer s H E) (fun cls d _ H => E cls d H) →
    PSsd (cxOf (L2N.CX P w) P w K mg base N_ratio_of_two "ratio_of_two" (defScope s_ratio_of_two) a_ratio_of_two cdv A outer s H E) (fun cls d _ H => E cls d H) (defBody s_ratio_of_two) w_ratio_of_two := fun cdv A outer s H E hr tk =>
  (psd_one (psd_ret (pd_call tk H_reduced.F (hr.mono (by decide)) (by rfl) H_reduced.m H_reduced.kp H_reduced.b (pad_cons (pd_op op_mulA opd_mulA (pd_ix ix_seq opd_ix (pd_var 0) pd_int (fun _ _ => rfl)) (pd_ix ix_seq opd_ix (pd_var 1) pd_int (fun _ _ => rfl))) (pad_cons (pd_op op_mulA opd_mulA (pd_ix ix_seq opd_ix (pd_var 0) pd_int (fun _ _ => rfl)) (pd_ix ix_seq opd_ix (pd_var 1) pd_int (fun _ _ => rfl))) pad_nil)))))
abbrev s_lies_below : Stmt := topS 43
abbrev N_lies_below : List Str := ["one", "other"]
theorem sc_lies_below : FnScope N_lies_below ["one", "other"] (defScope s_lies_below) := ⟨rfl, rfl, rfl, by decide +kernel, rfl, by decide +kernel, by decide +kernel⟩
def w_lies_below  : WS := (wRet (wOp fLt (wOp fMulA (wOp fIx (wVar 0) (wC (.int 0))) (wOp fIx (wVar 1) (wC (.int 1)))) (wOp fMulA (wOp fIx (wVar 1) (wC (.int 0))) (wOp fIx (wVar 0) (wC (.int 1))))))
theorem d_lies_below {a_lies_below : Addr} (T : Tx K mg C fI fdI ad) : ∀ (cdv : Value) (A : Around) (outer : List Env) (s : Shared) (H : Hp) (E : XK), Room 0 (cxOf (L2N.CX P w) P w K mg base N_lies_below "lies_below" (defScope s_lies_below) a_lies_below cdv A outer s H E).A → L2N.Takes (cxOf (L2N.CX P w) P w K mg base N_lies_below "lies_below" (defScope s_lies_below) a_lies_below cdv A outer s H E) (fun cls d _ H => E cls d H) →
    PSsd (cxOf (L2N.CX P w) P w K mg base N_lies_below "lies_below" (defScope s_lies_below) a_lies_below cdv A outer s H E) (fun cls d _ H => E cls d H) (defBody s_lies_below) w_lies_below := fun cdv A outer s H E hr tk =>
  (psd_one (psd_ret (pd_cmp op_lt opd_lt (pd_op op_mulA opd_mulA (pd_ix ix_seq opd_ix (pd_var 0) pd_int (fun _ _ => rfl)) (pd_ix ix_seq opd_ix (pd_var 1) pd_int (fun _ _ => rfl))) (pd_op op_mulA opd_mulA (pd_ix ix_seq opd_ix (pd_var 1) pd_int (fun _ _ => rfl)) (pd_ix ix_seq opd_ix (pd_var 0) pd_int (fun _ _ => rfl))) (nomark _))))
abbrev s_need_two : Stmt := topS 44
abbrev N_need_two : List Str := ["one", "other"]
theorem sc_need_two : FnScope N_need_two ["one", "other"] (defScope s_need_two) := ⟨rfl, rfl, rfl, by decide +kernel, rfl, by decide +kernel, by decide +kernel⟩
def w_need_two (C : Addr) : WS := (wSeq (wExp (wCall 2 (c_need C) (aCons (wCall 1 c_is_quotient (aCons (wVar 0) aNil)) (aCons (wC (.str "one")) aNil))))
  (wExp (wCall 2 (c_need C) (aCons (wCall 1 c_is_quotient (aCons (wVar 1) aNil)) (aCons (wC (.str "other")) aNil)))))
theorem d_need_two {a_need_two : Addr} (T : Tx K mg C fI fdI ad) {a_is_quotient : Addr} {fd_is_quotient : FuncData} {a_need : Addr} {fd_need : FuncData} (H_need : Cl P w K mg base 3 "need" s_need ["holds", "word"] 2 (c_need C) a_need fd_need) (H_is_quotient : Cl P w K mg base 2 "is_quotient" s_is_quotient ["thing"] 1 c_is_quotient a_is_quotient fd_is_quotient) : ∀ (cdv : Value) (A : Around) (outer : List Env) (s : Shared) (H : Hp) (E : XK), Room 3 (cxOf (L2N.CX P w) P w K mg base N_need_two "need_two" (defScope s_need_two) a_need_two cdv A outer s H E).A → L2N.Takes (cxOf (L2N.CX P w) P w K mg base N_need_two "need_two" (defScope s_need_two) a_need_two cdv A outer s H E) (fun cls d _ H => E cls d H) →
    PSsd (cxOf (L2N.CX P w) P w K mg base N_need_two "need_two" (defScope s_need_two) a_need_two cdv A outer s H E) (fun cls d _ H => E cls d H) (defBody s_need_two) (w_need_two C) := fun cdv A outer s H E hr tk =>
  (psd_cons (psd_expr (pd_call tk H_need.F (hr.mono (by decide)) (by rfl) H_need.m H_need.kp H_need.b (pad_cons (pd_call tk H_is_quotient.F (hr.mono (by decide)) (by rfl) H_is_quotient.m H_is_quotient.kp H_is_quotient.b (pad_cons (pd_var 0) pad_nil)) (pad_cons pd_str pad_nil))))
  (psd_one (psd_expr (pd_call tk H_need.F (hr.mono (by decide)) (by rfl) H_need.m H_need.kp H_need.b (pad_cons (pd_call tk H_is_quotient.F (hr.mono (by decide)) (by rfl) H_is_quotient.m H_is_quotient.kp H_is_quotient.b (pad_cons (pd_var 1) pad_nil)) (pad_cons pd_str pad_nil))))))
abbrev s_plus : Stmt := topS 45
abbrev N_plus : List Str := ["one", "other"]
theorem sc_plus : FnScope N_plus ["one", "other"] (defScope s_plus) := ⟨rfl, rfl, rfl, by decide +kernel, rfl, by decide +kernel, by decide +kernel⟩
def w_plus (C : Addr) : WS := (wSeq (wExp (wCall 2 (c_need_two C) (aCons (wVar 0) (aCons (wVar 1) aNil))))
  (wRet (wCall 2 c_sum_of_two (aCons (wVar 0) (aCons (wVar 1) aNil)))))
theorem d_plus {a_plus : Addr} (T : Tx K mg C fI fdI ad) {a_sum_of_two : Addr} {fd_sum_of_two : FuncData} {a_need_two : Addr} {fd_need_two : FuncData} (H_need_two : Cl P w K mg base 4 "need_two" s_need_two ["one", "other"] 2 (c_need_two C) a_need_two fd_need_two) (H_sum_of_two : Cl P w K mg base 2 "sum_of_two" s_sum_of_two ["one", "other"] 2 c_sum_of_two a_sum_of_two fd_sum_of_two) : ∀ (cdv : Value) (A : Around) (outer : List Env) (s : Shared) (H : Hp) (E : XK), Room 4 (cxOf (L2N.CX P w) P w K mg base N_plus "plus" (defScope s_plus) a_plus cdv A outer s H E).A → L2N.Takes (cxOf (L2N.CX P w) P w K mg base N_plus "plus" (defScope s_plus) a_plus cdv A outer s H E) (fun cls d _ H => E cls d H) →
    PSsd (cxOf (L2N.CX P w) P w K mg base N_plus "plus" (defScope s_plus) a_plus cdv A outer s H E) (fun cls d _ H => E cls d H) (defBody s_plus) (w_plus C) := fun cdv A outer s H E hr tk =>
  (psd_cons (psd_expr (pd_call tk H_need_two.F (hr.mono (by decide)) (by rfl) H_need_two.m H_need_two.kp H_need_two.b (pad_cons (pd_var 0) (pad_cons (pd_var 1) pad_nil))))
  (psd_one (psd_ret (pd_call tk H_sum_of_two.F (hr.mono (by decide)) (by rfl) H_sum_of_two.m H_sum_of_two.kp H_sum_of_two.b (pad_cons (pd_var 0) (pad_cons (pd_var 1) pad_nil))))))
abbrev s_minus : Stmt := topS 46
abbrev N_minus : List Str := ["one", "other"]
theorem sc_minus : FnScope N_minus ["one", "other"] (defScope s_minus) := ⟨rfl, rfl, rfl, by decide +kernel, rfl, by decide +kernel, by decide +kernel⟩
def w_minus (C : Addr) : WS := (wSeq (wExp (wCall 2 (c_need_two C) (aCons (wVar 0) (aCons (wVar 1) aNil))))
  (wRet (wCall 2 c_difference_of_two (aCons (wVar 0) (aCons (wVar 1) aNil)))))
theorem d_minus {a_minus : Addr} (T : Tx K mg C fI fdI ad) {a_difference_of_two : Addr} {fd_difference_of_two : FuncData} {a_need_two : Addr} {fd_need_two : FuncData} (H_need_two : Cl P w K mg base 4 "need_two" s_need_two ["one", "other"] 2 (c_need_two C) a_need_two fd_need_two) (H_difference_of_two : Cl P w K mg base 2 "difference_of_two" s_difference_of_two ["one", "other"] 2 c_difference_of_two a_difference_of_two fd_difference_of_two) : ∀ (cdv : Value) (A : Around) (outer : List Env) (s : Shared) (H : Hp) (E : XK), Room 4 (cxOf (L2N.CX P w) P w K mg base N_minus "minus" (defScope s_minus) a_minus cdv A outer s H E).A → L2N.Takes (cxOf (L2N.CX P w) P w K mg base N_minus "minus" (defScope s_minus) a_minus cdv A outer s H E) (fun cls d _ H => E cls d H) →
    PSsd (cxOf (L2N.CX P w) P w K mg base N_minus "minus" (defScope s_minus) a_minus cdv A outer s H E) (fun cls d _ H => E cls d H) (defBody s_minus) (w_minus C) := fun cdv A outer s H E hr tk =>
  (psd_cons (psd_expr (pd_call tk H_need_two.F (hr.mono (by decide)) (by rfl) H_need_two.m H_need_two.kp H_need_two.b (pad_cons (pd_var 0) (pad_cons (pd_var 1) pad_nil))))
  (psd_one (psd_ret (pd_call tk H_difference_of_two.F (hr.mono (by decide)) (by rfl) H_difference_of_two.m H_difference_of_two.kp H_difference_of_two.b (pad_cons (pd_var 0) (pad_cons (pd_var 1) pad_nil))))))
abbrev s_times : Stmt := topS 47
abbrev N_times : List Str := ["one", "other"]
theorem sc_times : FnScope N_times ["one", "other"] (defScope s_times) := ⟨rfl, rfl, rfl, by decide +kernel, rfl, by decide +kernel, by decide +kernel⟩
def w_times (C : Addr) : WS := (wSeq (wExp (wCall 2 (c_need_two C) (aCons (wVar 0) (aCons (wVar 1) aNil))))
  (wRet (wCall 2 c_product_of_two (aCons (wVar 0) (aCons (wVar 1) aNil)))))
theorem d_times {a_times : Addr} (T : Tx K mg C fI fdI ad) {a_product_of_two : Addr} {fd_product_of_two : FuncData} {a_need_two : Addr} {fd_need_two : FuncData} (H_need_two : Cl P w K mg base 4 "need_two" s_need_two ["one", "other"] 2 (c_need_two C) a_need_two fd_need_two) (H_product_of_two : Cl P w K mg base 2 "product_of_two" s_product_of_two ["one", "other"] 2 c_product_of_two a_product_of_two fd_product_of_two) : ∀ (cdv : Value) (A : Around) (outer : List Env) (s : Shared) (H : Hp) (E : XK), Room 4 (cxOf (L2N.CX P w) P w K mg base N_times "times" (defScope s_times) a_times cdv A outer s H E).A → L2N.Takes (cxOf (L2N.CX P w) P w K mg base N_times "times" (defScope s_times) a_times cdv A outer s H E) (fun cls d _ H => E cls d H) →
    PSsd (cxOf (L2N.CX P w) P w K mg base N_times "times" (defScope s_times) a_times cdv A outer s H E) (fun cls d _ H => E cls d H) (defBody s_times) (w_times C) := fun cdv A outer s H E hr tk =>
  (psd_cons (psd_expr (pd_call tk H_need_two.F (hr.mono (by decide)) (by rfl) H_need_two.m H_need_two.kp H_need_two.b (pad_cons (pd_var 0) (pad_cons (pd_var 1) pad_nil))))
  (psd_one (psd_ret (pd_call tk H_product_of_two.F (hr.mono (by decide)) (by rfl) H_product_of_two.m H_product_of_two.kp H_product_of_two.b (pad_cons (pd_var 0) (pad_cons (pd_var 1) pad_nil))))))
abbrev s_over : Stmt := topS 48
abbrev N_over : List Str := ["one", "other"]
theorem sc_over : FnScope N_over ["one", "other"] (defScope s_over) := ⟨rfl, rfl, rfl, by decide +kernel, rfl, by decide +kernel, by decide +kernel⟩
def w_over (C : Addr) : WS := (wSeq (wExp (wCall 2 (c_need_two C) (aCons (wVar 0) (aCons (wVar 1) aNil))))
  (wSeq (wExp (wCall 2 (c_need C) (aCons (wOp fNe (wOp fIx (wVar 1) (wC (.int 0))) (wC (.int 0))) (aCons (wC (.str "other")) aNil))))
  (wRet (wCall 2 c_ratio_of_two (aCons (wVar 0) (aCons (wVar 1) aNil))))))
theorem d_over {a_over : Addr} (T : Tx K mg C fI fdI ad) {a_ratio_of_two : Addr} {fd_ratio_of_two : FuncData} {a_need : Addr} {fd_need : FuncData} {a_need_two : Addr} {fd_need_two : FuncData} (H_need_two : Cl P w K mg base 4 "need_two" s_need_two ["one", "other"] 2 (c_need_two C) a_need_two fd_need_two) (H_need : Cl P w K mg base 3 "need" s_need ["holds", "word"] 2 (c_need C) a_need fd_need) (H_ratio_of_two : Cl P w K mg base 2 "ratio_of_two" s_ratio_of_two ["one", "other"] 2 c_ratio_of_two a_ratio_of_two fd_ratio_of_two) : ∀ (cdv : Value) (A : Around) (outer : List Env) (s : Shared) (H : Hp) (E : XK), Room 4 (cxOf (L2N.CX P w) P w K mg base N_over "over" (defScope s_over) a_over cdv A outer s H E).A → L2N.Takes (cxOf (L2N.CX P w) P w K mg base N_over "over" (defScope s_over) a_over cdv A outer s H E) (fun cls d _ H => E cls d H) →
    PSsd (cxOf (L2N.CX P w) P w K mg base N_over "over" (defScope s_over) a_over cdv A outer s H E) (fun cls d _ H => E cls d H) (defBody s_over) (w_over C) := fun cdv A outer s H E hr tk =>
  (psd_cons (psd_expr (pd_call tk H_need_two.F (hr.mono (by decide)) (by rfl) H_need_two.m H_need_two.kp H_need_two.b (pad_cons (pd_var 0) (pad_cons (pd_var 1) pad_nil))))
  (psd_cons (psd_expr (pd_call tk H_need.F (hr.mono (by decide)) (by rfl) H_need.m H_need.kp H_need.b (pad_cons (pd_cmp (op_neD hr.units) opd_ne (pd_ix ix_seq opd_ix (pd_var 1) pd_int (fun _ _ => rfl)) pd_int (nomark _)) (pad_cons pd_str pad_nil))))
  (psd_one (psd_ret (pd_call tk H_ratio_of_two.F (hr.mono (by decide)) (by rfl) H_ratio_of_two.m H_ratio_of_two.kp H_ratio_of_two.b (pad_cons (pd_var 0) (pad_cons (pd_var 1) pad_nil)))))))
abbrev s_is_less : Stmt := topS 49
abbrev N_is_less : List Str := ["one", "other"]
theorem sc_is_less : FnScope N_is_less ["one", "other"] (defScope s_is_less) := ⟨rfl, rfl, rfl, by decide +kernel, rfl, by decide +kernel, by decide +kernel⟩
def w_is_less (C : Addr) : WS := (wSeq (wExp (wCall 2 (c_need_two C) (aCons (wVar 0) (aCons (wVar 1) aNil))))
  (wRet (wCall 2 c_lies_below (aCons (wVar 0) (aCons (wVar 1) aNil)))))
theorem d_is_less {a_is_less : Addr} (T : Tx K mg C fI fdI ad) {a_lies_below : Addr} {fd_lies_below : FuncData} {a_need_two : Addr} {fd_need_two : FuncData} (H_need_two : Cl P w K mg base 4 "need_two" s_need_two ["one", "other"] 2 (c_need_two C) a_need_two fd_need_two) (H_lies_below : Cl P w K mg base 1 "lies_below" s_lies_below ["one", "other"] 2 c_lies_below a_lies_below fd_lies_below) : ∀ (cdv : Value) (A : Around) (outer : List Env) (s : Shared) (H : Hp) (E : XK), Room 4 (cxOf (L2N.CX P w) P w K mg base N_is_less "is_less" (defScope s_is_less) a_is_less cdv A outer s H E).A → L2N.Takes (cxOf (L2N.CX P w) P w K mg base N_is_less "is_less" (defScope s_is_less) a_is_less cdv A outer s H E) (fun cls d _ H => E cls d H) →
    PSsd (cxOf (L2N.CX P w) P w K mg base N_is_less "is_less" (defScope s_is_less) a_is_less cdv A outer s H E) (fun cls d _ H => E cls d H) (defBody s_is_less) (w_is_less C) := fun cdv A outer s H E hr tk =>
  (psd_cons (psd_expr (pd_call tk H_need_two.F (hr.mono (by decide)) (by rfl) H_need_two.m H_need_two.kp H_need_two.b (pad_cons (pd_var 0) (pad_cons (pd_var 1) pad_nil))))
  (psd_one (psd_ret (pd_call tk H_lies_below.F (hr.mono (by decide)) (by rfl) H_lies_below.m H_lies_below.kp H_lies_below.b (pad_cons (pd_var 0) (pad_cons (pd_var 1) pad_nil))))))
abbrev s_l_mixed : Stmt := topS 51
abbrev N_l_mixed : List Str := ["_law_cell", "_law_tick", "_law_first", "_law_second", "_law_third"]
theorem sc_l_mixed : FnScope N_l_mixed ["_law_cell", "_law_tick"] (defScope s_l_mixed) := ⟨rfl, rfl, rfl, by decide +kernel, rfl, by decide +kernel, by decide +kernel⟩
def w_l_mixed  : WS := (wSeq (wAsg 2 (wOp fMod (wCB fInt1 (aCons (wOp fAdd (wOp fAdd (wOp fMulA (wVar 0) (wC (.int 50021))) (wOp fMulA (wVar 1) (wC (.int 71993)))) (wC (.int 13))) aNil)) (wC (.int 2147480009))))
  (wSeq (wAsg 3 (wOp fMod (wCB fInt1 (aCons (wOp fAdd (wOp fAdd (wOp fMulA (wVar 2) (wVar 2)) (wOp fMulA (wVar 1) (wC (.int 30011)))) (wC (.int 5))) aNil)) (wC (.int 2147470001))))
  (wSeq (wAsg 4 (wOp fMod (wCB fInt1 (aCons (wOp fAdd (wOp fAdd (wOp fDiv (wOp fMulA (wVar 3) (wVar 3)) (wC (.int 4099))) (wOp fMulA (wVar 3) (wC (.int 20011)))) (wVar 1)) aNil)) (wC (.int 2147460011))))
  (wRet (wOp fDiv (wVar 4) (wC (.int 8)))))))
theorem d_l_mixed {a_l_mixed : Addr} (T : Tx K mg C fI fdI ad) : ∀ (cdv : Value) (A : Around) (outer : List Env) (s : Shared) (H : Hp) (E : XK), Room 0 (cxOf (L2N.CX P w) P w K mg base N_l_mixed "_law_mixed" (defScope s_l_mixed) a_l_mixed cdv A outer s H E).A → L2N.Takes (cxOf (L2N.CX P w) P w K mg base N_l_mixed "_law_mixed" (defScope s_l_mixed) a_l_mixed cdv A outer s H E) (fun cls d _ H => E cls d H) →
    PSsd (cxOf (L2N.CX P w) P w K mg base N_l_mixed "_law_mixed" (defScope s_l_mixed) a_l_mixed cdv A outer s H E) (fun cls d _ H => E cls d H) (defBody s_l_mixed) w_l_mixed := fun cdv A outer s H E hr tk =>
  (psd_cons (psd_set sc_l_mixed.nd rfl (by first | exact Or.inl rfl | exact Or.inr rfl) (pd_op op_mod opd_mod (pd_cty cad_int1 call_int1 (by rfl) T.b_int (by decide +kernel) (pad_cons (pd_op op_addA opd_add (pd_op op_addA opd_add (pd_op op_mulA opd_mulA (pd_var 0) pd_int) (pd_op op_mulA opd_mulA (pd_var 1) pd_int)) pd_int) pad_nil)) pd_int))
  (psd_cons (psd_set sc_l_mixed.nd rfl (by first | exact Or.inl rfl | exact Or.inr rfl) (pd_op op_mod opd_mod (pd_cty cad_int1 call_int1 (by rfl) T.b_int (by decide +kernel) (pad_cons (pd_op op_addA opd_add (pd_op op_addA opd_add (pd_op op_mulA opd_mulA (pd_var 2) (pd_var 2)) (pd_op op_mulA opd_mulA (pd_var 1) pd_int)) pd_int) pad_nil)) pd_int))
  (psd_cons (psd_set sc_l_mixed.nd rfl (by first | exact Or.inl rfl | exact Or.inr rfl) (pd_op op_mod opd_mod (pd_cty cad_int1 call_int1 (by rfl) T.b_int (by decide +kernel) (pad_cons (pd_op op_addA opd_add (pd_op op_addA opd_add (pd_op op_fdivX opd_div (pd_op op_mulA opd_mulA (pd_var 3) (pd_var 3)) pd_int) (pd_op op_mulA opd_mulA (pd_var 3) pd_int)) (pd_var 1)) pad_nil)) pd_int))
  (psd_one (psd_ret (pd_op op_fdivX opd_div (pd_var 4) pd_int))))))
/-! _law_pool: by hand -/
abbrev s_l_pool : Stmt := topS 52
abbrev N_l_pool : List Str := ["_law_script", "_law_seed", "_law_cell"]
theorem sc_l_pool : FnScope N_l_pool ["_law_script"] (defScope s_l_pool) := ⟨rfl, rfl, rfl, by decide +kernel, rfl, by decide +kernel, by decide +kernel⟩
/-! _law_take: by hand -/
abbrev s_l_take : Stmt := topS 53
abbrev N_l_take : List Str := ["_law_pool_here", "_law_size", "_law_cell", "_law_digit"]
theorem sc_l_take : FnScope N_l_take ["_law_pool_here", "_law_size"] (defScope s_l_take) := ⟨rfl, rfl, rfl, by decide +kernel, rfl, by decide +kernel, by decide +kernel⟩
abbrev s_l_whole : Stmt := topS 54
abbrev N_l_whole : List Str := ["_law_value_here"]
theorem sc_l_whole : FnScope N_l_whole ["_law_value_here"] (defScope s_l_whole) := ⟨rfl, rfl, rfl, by decide +kernel, rfl, by decide +kernel, by decide +kernel⟩
def w_l_whole  : WS := (wRet (vAnd (wIsi isInt (wVar 0)) (vNot (wIsi isBool (wVar 0)))))
theorem d_l_whole {a_l_whole : Addr} (T : Tx K mg C fI fdI ad) : ∀ (cdv : Value) (A : Around) (outer : List Env) (s : Shared) (H : Hp) (E : XK), Room 0 (cxOf (L2N.CX P w) P w K mg base N_l_whole "_law_whole" (defScope s_l_whole) a_l_whole cdv A outer s H E).A → L2N.Takes (cxOf (L2N.CX P w) P w K mg base N_l_whole "_law_whole" (defScope s_l_whole) a_l_whole cdv A outer s H E) (fun cls d _ H => E cls d H) →
    PSsd (cxOf (L2N.CX P w) P w K mg base N_l_whole "_law_whole" (defScope s_l_whole) a_l_whole cdv A outer s H E) (fun cls d _ H => E cls d H) (defBody s_l_whole) w_l_whole := fun cdv A outer s H E hr tk =>
  (psd_one (psd_ret (pd_and (pd_isi kit_int (by rfl) T.b_isinstance (pd_var 0) (pe_bltn (by rfl) T.b_int (by decide +kernel) rfl)) (pd_one (pd_not (pd_isi kit_bool (by rfl) T.b_isinstance (pd_var 0) (pe_bltn (by rfl) T.b_bool (by decide +kernel) rfl)))))))
abbrev s_l_common : Stmt := topS 55
abbrev N_l_common : List Str := ["_law_high", "_law_low_here"]
theorem sc_l_common : FnScope N_l_common ["_law_high", "_law_low_here"] (defScope s_l_common) := ⟨rfl, rfl, rfl, by decide +kernel, rfl, by decide +kernel, by decide +kernel⟩
def w_l_common  : WS := (wSeq (wWhile (wTst (wOp fNe (wVar 1) (wC (.int 0))))
  (wPar 0 1 (aCons (wVar 1) (aCons (wOp fMod (wCB fInt1 (aCons (wVar 0) aNil)) (wVar 1)) aNil))))
  (wRet (wVar 0)))
theorem d_l_common {a_l_common : Addr} (T : Tx K mg C fI fdI ad) : ∀ (cdv : Value) (A : Around) (outer : List Env) (s : Shared) (H : Hp) (E : XK), Room 0 (cxOf (L2N.CX P w) P w K mg base N_l_common "_law_common" (defScope s_l_common) a_l_common cdv A outer s H E).A → L2N.Takes (cxOf (L2N.CX P w) P w K mg base N_l_common "_law_common" (defScope s_l_common) a_l_common cdv A outer s H E) (fun cls d _ H => E cls d H) →
    PSsd (cxOf (L2N.CX P w) P w K mg base N_l_common "_law_common" (defScope s_l_common) a_l_common cdv A outer s H E) (fun cls d _ H => E cls d H) (defBody s_l_common) w_l_common := fun cdv A outer s H E hr tk =>
  (psd_cons (psd_while .leaving (ptd_cmp (op_neD hr.units) opd_ne (pd_var 1) pd_int (nomark _))
  (psd_one (psd_par (ps_par (i := 0) (j := 1) rfl sc_l_common.nd rfl rfl (by decide) rfl rfl (pad_cons (pd_var 1) (pad_cons (pd_op op_mod opd_mod (pd_cty cad_int1 call_int1 (by rfl) T.b_int (by decide +kernel) (pad_cons (pd_var 0) pad_nil)) (pd_var 1)) pad_nil)) (by rfl)))))
  (psd_one (psd_ret (pd_var 0))))
abbrev s_l_low : Stmt := topS 56
abbrev N_l_low : List Str := ["_law_top", "_law_bottom", "_law_common_here"]
theorem sc_l_low : FnScope N_l_low ["_law_top", "_law_bottom"] (defScope s_l_low) := ⟨rfl, rfl, rfl, by decide +kernel, rfl, by decide +kernel, by decide +kernel⟩
def w_l_low  : WS := (wSeq (wAsg 2 (wCall 2 c_l_common (aCons (wCB fAbs (aCons (wVar 0) aNil)) (aCons (wVar 1) aNil))))
  (wRet (wTup (aCons (wOp fDiv (wVar 0) (wVar 2)) (aCons (wOp fDiv (wVar 1) (wVar 2)) aNil)))))
theorem d_l_low {a_l_low : Addr} (T : Tx K mg C fI fdI ad) {a_l_common : Addr} {fd_l_common : FuncData} (H_l_common : Cl P w K mg base 1 "_law_common" s_l_common ["_law_high", "_law_low_here"] 2 c_l_common a_l_common fd_l_common) : ∀ (cdv : Value) (A : Around) (outer : List Env) (s : Shared) (H : Hp) (E : XK), Room 1 (cxOf (L2N.CX P w) P w K mg base N_l_low "_law_low" (defScope s_l_low) a_l_low cdv A outer s H E).A → L2N.Takes (cxOf (L2N.CX P w) P w K mg base N_l_low "_law_low" (defScope s_l_low) a_l_low cdv A outer s H E) (fun cls d _ H => E cls d H) →
    PSsd (cxOf (L2N.CX P w) P w K mg base N_l_low "_law_low" (defScope s_l_low) a_l_low cdv A outer s H E) (fun cls d _ H => E cls d H) (defBody s_l_low) w_l_low := fun cdv A outer s H E hr tk =>
  (psd_cons (psd_set sc_l_low.nd rfl (by first | exact Or.inl rfl | exact Or.inr rfl) (pd_call tk H_l_common.F (hr.mono (by decide)) (by rfl) H_l_common.m H_l_common.kp H_l_common.b (pad_cons (pd_cb cad_abs call_abs (by rfl) T.b_abs (by decide +kernel) (pad_cons (pd_var 0) pad_nil)) (pad_cons (pd_var 1) pad_nil))))
  (psd_one (psd_ret (pd_tup (pad_cons (pd_op op_fdivX opd_div (pd_var 0) (pd_var 2)) (pad_cons (pd_op op_fdivX opd_div (pd_var 1) (pd_var 2)) pad_nil))))))
abbrev s_l_quotient : Stmt := topS 57
abbrev N_l_quotient : List Str := ["_law_value_here"]
theorem sc_l_quotient : FnScope N_l_quotient ["_law_value_here"] (defScope s_l_quotient) := ⟨rfl, rfl, rfl, by decide +kernel, rfl, by decide +kernel, by decide +kernel⟩
def w_l_quotient  : WS := (wSeq (wIfS (wOr (wNot (wTst (wIsi isTup (wVar 0)))) (wTst (wOp fNe (wCB fLen (aCons (wVar 0) aNil)) (wC (.int 2)))))
  (wRet (wC (.bool false)))
  wNext)
  (wSeq (wIfS (wOr (wNot (wTst (wCall 1 c_l_whole (aCons (wOp fIx (wVar 0) (wC (.int 0))) aNil)))) (wOr (wNot (wTst (wCall 1 c_l_whole (aCons (wOp fIx (wVar 0) (wC (.int 1))) aNil)))) (wTst (wOp fLt (wOp fIx (wVar 0) (wC (.int 1))) (wC (.int 1))))))
  (wRet (wC (.bool false)))
  wNext)
  (wRet (wOp fEq (wCall 2 c_l_common (aCons (wCB fAbs (aCons (wOp fIx (wVar 0) (wC (.int 0))) aNil)) (aCons (wOp fIx (wVar 0) (wC (.int 1))) aNil))) (wC (.int 1))))))
theorem d_l_quotient {a_l_quotient : Addr} (T : Tx K mg C fI fdI ad) {a_l_whole : Addr} {fd_l_whole : FuncData} {a_l_common : Addr} {fd_l_common : FuncData} (H_l_common : Cl P w K mg base 1 "_law_common" s_l_common ["_law_high", "_law_low_here"] 2 c_l_common a_l_common fd_l_common) (H_l_whole : Cl P w K mg base 1 "_law_whole" s_l_whole ["_law_value_here"] 1 c_l_whole a_l_whole fd_l_whole) : ∀ (cdv : Value) (A : Around) (outer : List Env) (s : Shared) (H : Hp) (E : XK), Room 1 (cxOf (L2N.CX P w) P w K mg base N_l_quotient "_law_quotient" (defScope s_l_quotient) a_l_quotient cdv A outer s H E).A → L2N.Takes (cxOf (L2N.CX P w) P w K mg base N_l_quotient "_law_quotient" (defScope s_l_quotient) a_l_quotient cdv A outer s H E) (fun cls d _ H => E cls d H) →
    PSsd (cxOf (L2N.CX P w) P w K mg base N_l_quotient "_law_quotient" (defScope s_l_quotient) a_l_quotient cdv A outer s H E) (fun cls d _ H => E cls d H) (defBody s_l_quotient) w_l_quotient := fun cdv A outer s H E hr tk =>
  (psd_cons (psd_if (PWd.pt (pwd_or (ptd_not (ptd_val (pd_isi kit_tup (by rfl) T.b_isinstance (pd_var 0) (pe_bltn (by rfl) T.b_tuple (by decide +kernel) rfl)))) (pwd_or1 (ptd_cmp (op_neD hr.units) opd_ne (pd_cb cad_len call_len (by rfl) T.b_len PySem.boot_len (pad_cons (pd_var 0) pad_nil)) pd_int (nomark _)))))
  (psd_one (psd_ret pd_bl))
  psd_nil)
  (psd_cons (psd_if (PWd.pt (pwd_or (ptd_not (ptd_val (pd_call tk H_l_whole.F (hr.mono (by decide)) (by rfl) H_l_whole.m H_l_whole.kp H_l_whole.b (pad_cons (pd_ix ix_seq opd_ix (pd_var 0) pd_int (fun _ _ => rfl)) pad_nil)))) (pwd_or (ptd_not (ptd_val (pd_call tk H_l_whole.F (hr.mono (by decide)) (by rfl) H_l_whole.m H_l_whole.kp H_l_whole.b (pad_cons (pd_ix ix_seq opd_ix (pd_var 0) pd_int (fun _ _ => rfl)) pad_nil)))) (pwd_or1 (ptd_cmp op_lt opd_lt (pd_ix ix_seq opd_ix (pd_var 0) pd_int (fun _ _ => rfl)) pd_int (nomark _))))))
  (psd_one (psd_ret pd_bl))
  psd_nil)
  (psd_one (psd_ret (pd_cmp (op_eqD hr.units) opd_eq (pd_call tk H_l_common.F (hr.mono (by decide)) (by rfl) H_l_common.m H_l_common.kp H_l_common.b (pad_cons (pd_cb cad_abs call_abs (by rfl) T.b_abs (by decide +kernel) (pad_cons (pd_ix ix_seq opd_ix (pd_var 0) pd_int (fun _ _ => rfl)) pad_nil)) (pad_cons (pd_ix ix_seq opd_ix (pd_var 0) pd_int (fun _ _ => rfl)) pad_nil))) pd_int (nomark _))))))
abbrev s_l_small : Stmt := topS 58
abbrev N_l_small : List Str := ["_law_pool_here"]
theorem sc_l_small : FnScope N_l_small ["_law_pool_here"] (defScope s_l_small) := ⟨rfl, rfl, rfl, by decide +kernel, rfl, by decide +kernel, by decide +kernel⟩
def w_l_small  : WS := (wRet (wCall 2 c_l_low (aCons (wOp fSub (wCall 2 c_l_take (aPool 0 (aCons (wC (.int 25)) aNil))) (wC (.int 12))) (aCons (wOp fAdd (wC (.int 1)) (wCall 2 c_l_take (aPool 0 (aCons (wC (.int 12)) aNil)))) aNil))))
theorem d_l_small {a_l_small : Addr} (T : Tx K mg C fI fdI ad) {a_l_take : Addr} {fd_l_take : FuncData} {a_l_low : Addr} {fd_l_low : FuncData} (H_l_low : Cl P w K mg base 2 "_law_low" s_l_low ["_law_top", "_law_bottom"] 2 c_l_low a_l_low fd_l_low) (H_l_take : Cl P w K mg base 2 "_law_take" s_l_take ["_law_pool_here", "_law_size"] 2 c_l_take a_l_take fd_l_take) : ∀ (cdv : Value) (A : Around) (outer : List Env) (s : Shared) (H : Hp) (E : XK), Room 2 (cxOf (L2N.CX P w) P w K mg base N_l_small "_law_small" (defScope s_l_small) a_l_small cdv A outer s H E).A → L2N.Takes (cxOf (L2N.CX P w) P w K mg base N_l_small "_law_small" (defScope s_l_small) a_l_small cdv A outer s H E) (fun cls d _ H => E cls d H) →
    PSsd (cxOf (L2N.CX P w) P w K mg base N_l_small "_law_small" (defScope s_l_small) a_l_small cdv A outer s H E) (fun cls d _ H => E cls d H) (defBody s_l_small) w_l_small := fun cdv A outer s H E hr tk =>
  (psd_one (psd_ret (pd_call tk H_l_low.F (hr.mono (by decide)) (by rfl) H_l_low.m H_l_low.kp H_l_low.b (pad_cons (pd_op op_sub opd_sub (pd_call tk H_l_take.F (hr.mono (by decide)) (by rfl) H_l_take.m H_l_take.kp H_l_take.b (pad_pool 0 (pad_cons pd_int pad_nil))) pd_int) (pad_cons (pd_op op_addA opd_add pd_int (pd_call tk H_l_take.F (hr.mono (by decide)) (by rfl) H_l_take.m H_l_take.kp H_l_take.b (pad_pool 0 (pad_cons pd_int pad_nil)))) pad_nil)))))
abbrev s_l_great : Stmt := topS 59
abbrev N_l_great : List Str := ["_law_pool_here", "_law_heads", "_law_number"]
theorem sc_l_great : FnScope N_l_great ["_law_pool_here"] (defScope s_l_great) := ⟨rfl, rfl, rfl, by decide +kernel, rfl, by decide +kernel, by decide +kernel⟩
def w_l_great  : WS := (wSeq (wAsg 1 (wLst (aCons (wOp fPow (wC (.int 10)) (wC (.int 9))) (aCons (wOp fPow (wC (.int 10)) (wC (.int 20))) (aCons (wOp fPow (wC (.int 10)) (wC (.int 40))) (aCons (wOp fPow (wC (.int 10)) (wC (.int 59))) aNil))))))
  (wSeq (wAsg 2 (wOp fAdd (wOp fIx (wVar 1) (wCall 2 c_l_take (aPool 0 (aCons (wC (.int 4)) aNil)))) (wCall 2 c_l_take (aPool 0 (aCons (wC (.int 1000)) aNil)))))
  (wSeq (wIfS (wTst (wOp fEq (wCall 2 c_l_take (aPool 0 (aCons (wC (.int 2)) aNil))) (wC (.int 1))))
  (wRet (wOp fSub (wC (.int 0)) (wVar 2)))
  wNext)
  (wRet (wVar 2)))))
theorem d_l_great {a_l_great : Addr} (T : Tx K mg C fI fdI ad) {a_l_take : Addr} {fd_l_take : FuncData} (H_l_take : Cl P w K mg base 2 "_law_take" s_l_take ["_law_pool_here", "_law_size"] 2 c_l_take a_l_take fd_l_take) : ∀ (cdv : Value) (A : Around) (outer : List Env) (s : Shared) (H : Hp) (E : XK), Room 2 (cxOf (L2N.CX P w) P w K mg base N_l_great "_law_great" (defScope s_l_great) a_l_great cdv A outer s H E).A → L2N.Takes (cxOf (L2N.CX P w) P w K mg base N_l_great "_law_great" (defScope s_l_great) a_l_great cdv A outer s H E) (fun cls d _ H => E cls d H) →
    PSsd (cxOf (L2N.CX P w) P w K mg base N_l_great "_law_great" (defScope s_l_great) a_l_great cdv A outer s H E) (fun cls d _ H => E cls d H) (defBody s_l_great) w_l_great := fun cdv A outer s H E hr tk =>
  (psd_cons (psd_set sc_l_great.nd rfl (by first | exact Or.inl rfl | exact Or.inr rfl) (PF.pd (pf_lst (pad_cons (pd_op op_pow opd_pow pd_int pd_int) (pad_cons (pd_op op_pow opd_pow pd_int pd_int) (pad_cons (pd_op op_pow opd_pow pd_int pd_int) (pad_cons (pd_op op_pow opd_pow pd_int pd_int) pad_nil)))))))
  (psd_cons (psd_set sc_l_great.nd rfl (by first | exact Or.inl rfl | exact Or.inr rfl) (pd_op op_addA opd_add (pd_ix ix_seq opd_ix (pd_var 1) (pd_call tk H_l_take.F (hr.mono (by decide)) (by rfl) H_l_take.m H_l_take.kp H_l_take.b (pad_pool 0 (pad_cons pd_int pad_nil))) (fun _ _ => rfl)) (pd_call tk H_l_take.F (hr.mono (by decide)) (by rfl) H_l_take.m H_l_take.kp H_l_take.b (pad_pool 0 (pad_cons pd_int pad_nil)))))
  (psd_cons (psd_if (ptd_cmp (op_eqD hr.units) opd_eq (pd_call tk H_l_take.F (hr.mono (by decide)) (by rfl) H_l_take.m H_l_take.kp H_l_take.b (pad_pool 0 (pad_cons pd_int pad_nil))) pd_int (nomark _))
  (psd_one (psd_ret (pd_op op_sub opd_sub pd_int (pd_var 2))))
  psd_nil)
  (psd_one (psd_ret (pd_var 2))))))
abbrev s_l_value : Stmt := topS 60
abbrev N_l_value : List Str := ["_law_pool_here", "_law_pick", "_law_odd", "_law_times_by", "_law_held"]
theorem sc_l_value : FnScope N_l_value ["_law_pool_here"] (defScope s_l_value) := ⟨rfl, rfl, rfl, by decide +kernel, rfl, by decide +kernel, by decide +kernel⟩
def w_l_value  : WS := (wSeq (wAsg 1 (wCall 2 c_l_take (aPool 0 (aCons (wC (.int 16)) aNil))))
  (wSeq (wIfS (wTst (wOp fLt (wVar 1) (wC (.int 6))))
  (wRet (wCall 1 c_l_small (aPool 0 aNil)))
  wNext)
  (wSeq (wIfS (wTst (wOp fEq (wVar 1) (wC (.int 6))))
  (wRet (wCall 2 c_l_low (aCons (wCall 1 c_l_great (aPool 0 aNil)) (aCons (wCB fAbs (aCons (wCall 1 c_l_great (aPool 0 aNil)) aNil)) aNil))))
  wNext)
  (wSeq (wIfS (wTst (wOp fEq (wVar 1) (wC (.int 7))))
  (wRet (wTup (aCons (wOp fSub (wCall 2 c_l_take (aPool 0 (aCons (wC (.int 9)) aNil))) (wC (.int 4))) (aCons (wOp fSub (wCall 2 c_l_take (aPool 0 (aCons (wC (.int 7)) aNil))) (wC (.int 2))) aNil))))
  wNext)
  (wSeq (wIfS (wTst (wOp fEq (wVar 1) (wC (.int 8))))
  (wRet (wOp fIx (wLst (aCons (wTup (aCons (wC (.bool true)) (aCons (wC (.int 1)) aNil))) (aCons (wTup (aCons (wC (.int 1)) (aCons (wC (.bool true)) aNil))) (aCons (wTup (aCons (wC (.bool false)) (aCons (wC (.int 1)) aNil))) (aCons (wTup (aCons (wC (.int 0)) (aCons (wC (.bool true)) aNil))) (aCons (wTup (aCons (wC (.int 2)) (aCons (wC (.bool true)) aNil))) (aCons (wTup (aCons (wC (.bool true)) (aCons (wC (.int 2)) aNil))) aNil))))))) (wCall 2 c_l_take (aPool 0 (aCons (wC (.int 6)) aNil)))))
  wNext)
  (wSeq (wIfS (wTst (wOp fEq (wVar 1) (wC (.int 9))))
  (wSeq (wAsg 2 (wLst (aCons (wC .none) (aCons (wC (.str "")) (aCons (wC (.str "1/2")) (aCons (wC (.str "1")) (aCons (wLst (aCons (wC (.int 1)) (aCons (wC (.int 2)) aNil))) (aCons (wTup (aCons (wC (.int 1)) aNil)) (aCons (wTup (aCons (wC (.int 1)) (aCons (wC (.int 2)) (aCons (wC (.int 3)) aNil)))) (aCons (wTup aNil) (aCons (wTup (aCons (wTup (aCons (wC (.int 1)) (aCons (wC (.int 2)) aNil))) aNil)) (aCons (wTup (aCons (wC (.int 1)) (aCons (wC .none) aNil))) (aCons (wTup (aCons (wC (.str "1")) (aCons (wC (.int 2)) aNil))) (aCons (wTup (aCons (wC (.int 1)) (aCons (wC (.str "2")) aNil))) (aCons (wC (.bool true)) (aCons (wC (.bool false)) aNil))))))))))))))))
  (wRet (wOp fIx (wVar 2) (wCall 2 c_l_take (aPool 0 (aCons (wC (.int 14)) aNil))))))
  wNext)
  (wSeq (wIfS (wTst (wOp fLt (wVar 1) (wC (.int 12))))
  (wRet (wOp fSub (wCall 2 c_l_take (aPool 0 (aCons (wC (.int 13)) aNil))) (wC (.int 6))))
  wNext)
  (wSeq (wIfS (wTst (wOp fEq (wVar 1) (wC (.int 12))))
  (wRet (wCall 1 c_l_great (aPool 0 aNil)))
  wNext)
  (wSeq (wIfS (wTst (wOp fEq (wVar 1) (wC (.int 13))))
  (wRet (wTup (aCons (wC (.int 0)) (aCons (wC (.int 1)) aNil))))
  wNext)
  (wSeq (wIfS (wTst (wOp fEq (wVar 1) (wC (.int 14))))
  (wRet (wLstOf (wCall 1 c_l_small (aPool 0 aNil))))
  wNext)
  (wSeq (wAsg 3 (wOp fAdd (wC (.int 1)) (wCall 2 c_l_take (aPool 0 (aCons (wC (.int 4)) aNil)))))
  (wSeq (wAsg 4 (wCall 1 c_l_small (aPool 0 aNil)))
  (wRet (wTup (aCons (wOp fMulA (wOp fIx (wVar 4) (wC (.int 0))) (wVar 3)) (aCons (wOp fMulA (wOp fIx (wVar 4) (wC (.int 1))) (wVar 3)) aNil))))))))))))))))
theorem d_l_value {a_l_value : Addr} (T : Tx K mg C fI fdI ad) {a_l_great : Addr} {fd_l_great : FuncData} {a_l_low : Addr} {fd_l_low : FuncData} {a_l_small : Addr} {fd_l_small : FuncData} {a_l_take : Addr} {fd_l_take : FuncData} (H_l_take : Cl P w K mg base 2 "_law_take" s_l_take ["_law_pool_here", "_law_size"] 2 c_l_take a_l_take fd_l_take) (H_l_small : Cl P w K mg base 3 "_law_small" s_l_small ["_law_pool_here"] 1 c_l_small a_l_small fd_l_small) (H_l_low : Cl P w K mg base 2 "_law_low" s_l_low ["_law_top", "_law_bottom"] 2 c_l_low a_l_low fd_l_low) (H_l_great : Cl P w K mg base 3 "_law_great" s_l_great ["_law_pool_here"] 1 c_l_great a_l_great fd_l_great) : ∀ (cdv : Value) (A : Around) (outer : List Env) (s : Shared) (H : Hp) (E : XK), Room 3 (cxOf (L2N.CX P w) P w K mg base N_l_value "_law_value" (defScope s_l_value) a_l_value cdv A outer s H E).A → L2N.Takes (cxOf (L2N.CX P w) P w K mg base N_l_value "_law_value" (defScope s_l_value) a_l_value cdv A outer s H E) (fun cls d _ H => E cls d H) →
    PSsd (cxOf (L2N.CX P w) P w K mg base N_l_value "_law_value" (defScope s_l_value) a_l_value cdv A outer s H E) (fun cls d _ H => E cls d H) (defBody s_l_value) w_l_value := fun cdv A outer s H E hr tk =>
  (psd_cons (psd_set sc_l_value.nd rfl (by first | exact Or.inl rfl | exact Or.inr rfl) (pd_call tk H_l_take.F (hr.mono (by decide)) (by rfl) H_l_take.m H_l_take.kp H_l_take.b (pad_pool 0 (pad_cons pd_int pad_nil))))
  (psd_cons (psd_if (ptd_cmp op_lt opd_lt (pd_var 1) pd_int (nomark _))
  (psd_one (psd_ret (pd_call tk H_l_small.F (hr.mono (by decide)) (by rfl) H_l_small.m H_l_small.kp H_l_small.b (pad_pool 0 pad_nil))))
  psd_nil)
  (psd_cons (psd_if (ptd_cmp (op_eqD hr.units) opd_eq (pd_var 1) pd_int (nomark _))
  (psd_one (psd_ret (pd_call tk H_l_low.F (hr.mono (by decide)) (by rfl) H_l_low.m H_l_low.kp H_l_low.b (pad_cons (pd_call tk H_l_great.F (hr.mono (by decide)) (by rfl) H_l_great.m H_l_great.kp H_l_great.b (pad_pool 0 pad_nil)) (pad_cons (pd_cb cad_abs call_abs (by rfl) T.b_abs (by decide +kernel) (pad_cons (pd_call tk H_l_great.F (hr.mono (by decide)) (by rfl) H_l_great.m H_l_great.kp H_l_great.b (pad_pool 0 pad_nil)) pad_nil)) pad_nil)))))
  psd_nil)
  (psd_cons (psd_if (ptd_cmp (op_eqD hr.units) opd_eq (pd_var 1) pd_int (nomark _))
  (psd_one (psd_ret (pd_tup (pad_cons (pd_op op_sub opd_sub (pd_call tk H_l_take.F (hr.mono (by decide)) (by rfl) H_l_take.m H_l_take.kp H_l_take.b (pad_pool 0 (pad_cons pd_int pad_nil))) pd_int) (pad_cons (pd_op op_sub opd_sub (pd_call tk H_l_take.F (hr.mono (by decide)) (by rfl) H_l_take.m H_l_take.kp H_l_take.b (pad_pool 0 (pad_cons pd_int pad_nil))) pd_int) pad_nil)))))
  psd_nil)
  (psd_cons (psd_if (ptd_cmp (op_eqD hr.units) opd_eq (pd_var 1) pd_int (nomark _))
  (psd_one (psd_ret (pd_ix ix_seq opd_ix (PF.pd (pf_lst (pad_cons (pd_tup (pad_cons pd_bl (pad_cons pd_int pad_nil))) (pad_cons (pd_tup (pad_cons pd_int (pad_cons pd_bl pad_nil))) (pad_cons (pd_tup (pad_cons pd_bl (pad_cons pd_int pad_nil))) (pad_cons (pd_tup (pad_cons pd_int (pad_cons pd_bl pad_nil))) (pad_cons (pd_tup (pad_cons pd_int (pad_cons pd_bl pad_nil))) (pad_cons (pd_tup (pad_cons pd_bl (pad_cons pd_int pad_nil))) pad_nil)))))))) (pd_call tk H_l_take.F (hr.mono (by decide)) (by rfl) H_l_take.m H_l_take.kp H_l_take.b (pad_pool 0 (pad_cons pd_int pad_nil))) (fun _ _ => rfl))))
  psd_nil)
  (psd_cons (psd_if (ptd_cmp (op_eqD hr.units) opd_eq (pd_var 1) pd_int (nomark _))
  (psd_cons (psd_set sc_l_value.nd rfl (by first | exact Or.inl rfl | exact Or.inr rfl) (PF.pd (pf_lst (pad_cons pd_non (pad_cons pd_str (pad_cons pd_str (pad_cons pd_str (pad_cons (PF.pd (pf_lst (pad_cons pd_int (pad_cons pd_int pad_nil)))) (pad_cons (pd_tup (pad_cons pd_int pad_nil)) (pad_cons (pd_tup (pad_cons pd_int (pad_cons pd_int (pad_cons pd_int pad_nil)))) (pad_cons (pd_tup pad_nil) (pad_cons (pd_tup (pad_cons (pd_tup (pad_cons pd_int (pad_cons pd_int pad_nil))) pad_nil)) (pad_cons (pd_tup (pad_cons pd_int (pad_cons pd_non pad_nil))) (pad_cons (pd_tup (pad_cons pd_str (pad_cons pd_int pad_nil))) (pad_cons (pd_tup (pad_cons pd_int (pad_cons pd_str pad_nil))) (pad_cons pd_bl (pad_cons pd_bl pad_nil)))))))))))))))))
  (psd_one (psd_ret (pd_ix ix_seq opd_ix (pd_var 2) (pd_call tk H_l_take.F (hr.mono (by decide)) (by rfl) H_l_take.m H_l_take.kp H_l_take.b (pad_pool 0 (pad_cons pd_int pad_nil))) (fun _ _ => rfl)))))
  psd_nil)
  (psd_cons (psd_if (ptd_cmp op_lt opd_lt (pd_var 1) pd_int (nomark _))
  (psd_one (psd_ret (pd_op op_sub opd_sub (pd_call tk H_l_take.F (hr.mono (by decide)) (by rfl) H_l_take.m H_l_take.kp H_l_take.b (pad_pool 0 (pad_cons pd_int pad_nil))) pd_int)))
  psd_nil)
  (psd_cons (psd_if (ptd_cmp (op_eqD hr.units) opd_eq (pd_var 1) pd_int (nomark _))
  (psd_one (psd_ret (pd_call tk H_l_great.F (hr.mono (by decide)) (by rfl) H_l_great.m H_l_great.kp H_l_great.b (pad_pool 0 pad_nil))))
  psd_nil)
  (psd_cons (psd_if (ptd_cmp (op_eqD hr.units) opd_eq (pd_var 1) pd_int (nomark _))
  (psd_one (psd_ret (pd_tup (pad_cons pd_int (pad_cons pd_int pad_nil)))))
  psd_nil)
  (psd_cons (psd_if (ptd_cmp (op_eqD hr.units) opd_eq (pd_var 1) pd_int (nomark _))
  (psd_one (psd_ret (PF.pd (pf_lstOf (by rfl) T.b_list (pd_call tk H_l_small.F (hr.mono (by decide)) (by rfl) H_l_small.m H_l_small.kp H_l_small.b (pad_pool 0 pad_nil))))))
  psd_nil)
  (psd_cons (psd_set sc_l_value.nd rfl (by first | exact Or.inl rfl | exact Or.inr rfl) (pd_op op_addA opd_add pd_int (pd_call tk H_l_take.F (hr.mono (by decide)) (by rfl) H_l_take.m H_l_take.kp H_l_take.b (pad_pool 0 (pad_cons pd_int pad_nil)))))
  (psd_cons (psd_set sc_l_value.nd rfl (by first | exact Or.inl rfl | exact Or.inr rfl) (pd_call tk H_l_small.F (hr.mono (by decide)) (by rfl) H_l_small.m H_l_small.kp H_l_small.b (pad_pool 0 pad_nil)))
  (psd_one (psd_ret (pd_tup (pad_cons (pd_op op_mulA opd_mulA (pd_ix ix_seq opd_ix (pd_var 4) pd_int (fun _ _ => rfl)) (pd_var 3)) (pad_cons (pd_op op_mulA opd_mulA (pd_ix ix_seq opd_ix (pd_var 4) pd_int (fun _ _ => rfl)) (pd_var 3)) pad_nil)))))))))))))))))
abbrev s_l_like : Stmt := topS 61
abbrev N_l_like : List Str := ["_law_told", "_law_due", "_law_k"]
theorem sc_l_like : FnScope N_l_like ["_law_told", "_law_due"] (defScope s_l_like) := ⟨rfl, rfl, rfl, by decide +kernel, rfl, by decide +kernel, by decide +kernel⟩
def w_l_like0  : WS := (wSeq (wIfS (wTst (wIsi isTup (wVar 1)))
  (wSeq (wIfS (wOr (wNot (wTst (wIsi isTup (wVar 0)))) (wTst (wOp fNe (wCB fLen (aCons (wVar 0) aNil)) (wCB fLen (aCons (wVar 1) aNil)))))
  (wRet (wC (.bool false)))
  wNext)
  (wSeq (wFor (wRng1 (wCB fLen (aCons (wVar 1) aNil))) [2] bName
  (wIfS (wNot (wTst (wCall 2 cF (aCons (wOp fIx (wVar 0) (wVar 2)) (aCons (wOp fIx (wVar 1) (wVar 2)) aNil)))))
  (wRet (wC (.bool false)))
  wNext))
  (wRet (wC (.bool true)))))
  wNext)
  (wSeq (wIfS (wTst (wIsi isBool (wVar 1)))
  (wRet (vAnd (wIsi isBool (wVar 0)) (wOp fEq (wVar 0) (wVar 1))))
  wNext)
  (wSeq (wIfS (wTst (wIsi isInt (wVar 1)))
  (wRet (vAnd (wCall 1 c_l_whole (aCons (wVar 0) aNil)) (wOp fEq (wVar 0) (wVar 1))))
  wNext)
  (wRet (vAnd (wIsi isStr (wVar 0)) (wOp fEq (wVar 0) (wVar 1)))))))
theorem d_l_like0 {a_l_like : Addr} (T : Tx K mg C fI fdI ad) {a_l_like : Addr} {fd_l_like : FuncData} {a_l_whole : Addr} {fd_l_whole : FuncData} (H_l_whole : Cl P w K mg base 1 "_law_whole" s_l_whole ["_law_value_here"] 1 c_l_whole a_l_whole fd_l_whole) (H_l_like : Cl P w K mg base 1 "_law_like" s_l_like ["_law_told", "_law_due"] 2 cF a_l_like fd_l_like) : ∀ (cdv : Value) (A : Around) (outer : List Env) (s : Shared) (H : Hp) (E : XK), Room 1 (cxOf (L2N.CX P w) P w K mg base N_l_like "_law_like" (defScope s_l_like) a_l_like cdv A outer s H E).A → L2N.Takes (cxOf (L2N.CX P w) P w K mg base N_l_like "_law_like" (defScope s_l_like) a_l_like cdv A outer s H E) (fun cls d _ H => E cls d H) →
    PSsd (cxOf (L2N.CX P w) P w K mg base N_l_like "_law_like" (defScope s_l_like) a_l_like cdv A outer s H E) (fun cls d _ H => E cls d H) (defBody s_l_like) w_l_like0 := fun cdv A outer s H E hr tk =>
  (psd_cons (psd_if (ptd_val (pd_isi kit_tup (by rfl) T.b_isinstance (pd_var 1) (pe_bltn (by rfl) T.b_tuple (by decide +kernel) rfl)))
  (psd_cons (psd_if (PWd.pt (pwd_or (ptd_not (ptd_val (pd_isi kit_tup (by rfl) T.b_isinstance (pd_var 0) (pe_bltn (by rfl) T.b_tuple (by decide +kernel) rfl)))) (pwd_or1 (ptd_cmp (op_neD hr.units) opd_ne (pd_cb cad_len call_len (by rfl) T.b_len PySem.boot_len (pad_cons (pd_var 0) pad_nil)) (pd_cb cad_len call_len (by rfl) T.b_len PySem.boot_len (pad_cons (pd_var 1) pad_nil)) (nomark _)))))
  (psd_one (psd_ret pd_bl))
  psd_nil)
  (psd_cons (psd_for .leaving rfl (pid_rng1 (by rfl) T.b_range (pd_cb cad_len call_len (by rfl) T.b_len PySem.boot_len (pad_cons (pd_var 1) pad_nil))) (pg_name (i := 2) sc_l_like.nd rfl (by first | exact Or.inl rfl | exact Or.inr rfl)) bnd_name
  (psd_one (psd_if (ptd_not (ptd_val (pd_call tk H_l_like.F (hr.mono (by decide)) (by rfl) H_l_like.m H_l_like.kp H_l_like.b (pad_cons (pd_ix ix_seq opd_ix (pd_var 0) (pd_var 2) (fun _ _ => rfl)) (pad_cons (pd_ix ix_seq opd_ix (pd_var 1) (pd_var 2) (fun _ _ => rfl)) pad_nil)))))
  (psd_one (psd_ret pd_bl))
  psd_nil)))
  (psd_one (psd_ret pd_bl))))
  psd_nil)
  (psd_cons (psd_if (ptd_val (pd_isi kit_bool (by rfl) T.b_isinstance (pd_var 1) (pe_bltn (by rfl) T.b_bool (by decide +kernel) rfl)))
  (psd_one (psd_ret (pd_and (pd_isi kit_bool (by rfl) T.b_isinstance (pd_var 0) (pe_bltn (by rfl) T.b_bool (by decide +kernel) rfl)) (pd_one (pd_cmp (op_eqD hr.units) opd_eq (pd_var 0) (pd_var 1) (nomark _))))))
  psd_nil)
  (psd_cons (psd_if (ptd_val (pd_isi kit_int (by rfl) T.b_isinstance (pd_var 1) (pe_bltn (by rfl) T.b_int (by decide +kernel) rfl)))
  (psd_one (psd_ret (pd_and (pd_call tk H_l_whole.F (hr.mono (by decide)) (by rfl) H_l_whole.m H_l_whole.kp H_l_whole.b (pad_cons (pd_var 0) pad_nil)) (pd_one (pd_cmp (op_eqD hr.units) opd_eq (pd_var 0) (pd_var 1) (nomark _))))))
  psd_nil)
  (psd_one (psd_ret (pd_and (pd_isi kit_str (by rfl) T.b_isinstance (pd_var 0) (pe_bltn (by rfl) T.b_str (by decide +kernel) rfl)) (pd_one (pd_cmp (op_eqD hr.units) opd_eq (pd_var 0) (pd_var 1) (nomark _)))))))))
def w_l_like1  : WS := (wSeq (wIfS (wTst (wIsi isTup (wVar 1)))
  (wSeq (wIfS (wOr (wNot (wTst (wIsi isTup (wVar 0)))) (wTst (wOp fNe (wCB fLen (aCons (wVar 0) aNil)) (wCB fLen (aCons (wVar 1) aNil)))))
  (wRet (wC (.bool false)))
  wNext)
  (wSeq (wFor (wRng1 (wCB fLen (aCons (wVar 1) aNil))) [2] bName
  (wIfS (wNot (wTst (wCall 2 c_l_like0 (aCons (wOp fIx (wVar 0) (wVar 2)) (aCons (wOp fIx (wVar 1) (wVar 2)) aNil)))))
  (wRet (wC (.bool false)))
  wNext))
  (wRet (wC (.bool true)))))
  wNext)
  (wSeq (wIfS (wTst (wIsi isBool (wVar 1)))
  (wRet (vAnd (wIsi isBool (wVar 0)) (wOp fEq (wVar 0) (wVar 1))))
  wNext)
  (wSeq (wIfS (wTst (wIsi isInt (wVar 1)))
  (wRet (vAnd (wCall 1 c_l_whole (aCons (wVar 0) aNil)) (wOp fEq (wVar 0) (wVar 1))))
  wNext)
  (wRet (vAnd (wIsi isStr (wVar 0)) (wOp fEq (wVar 0) (wVar 1)))))))
theorem d_l_like1 {a_l_like : Addr} (T : Tx K mg C fI fdI ad) {a_l_like : Addr} {fd_l_like : FuncData} {a_l_whole : Addr} {fd_l_whole : FuncData} (H_l_whole : Cl P w K mg base 1 "_law_whole" s_l_whole ["_law_value_here"] 1 c_l_whole a_l_whole fd_l_whole) (H_l_like : Cl P w K mg base 2 "_law_like" s_l_like ["_law_told", "_law_due"] 2 c_l_like0 a_l_like fd_l_like) : ∀ (cdv : Value) (A : Around) (outer : List Env) (s : Shared) (H : Hp) (E : XK), Room 2 (cxOf (L2N.CX P w) P w K mg base N_l_like "_law_like" (defScope s_l_like) a_l_like cdv A outer s H E).A → L2N.Takes (cxOf (L2N.CX P w) P w K mg base N_l_like "_law_like" (defScope s_l_like) a_l_like cdv A outer s H E) (fun cls d _ H => E cls d H) →
    PSsd (cxOf (L2N.CX P w) P w K mg base N_l_like "_law_like" (defScope s_l_like) a_l_like cdv A outer s H E) (fun cls d _ H => E cls d H) (defBody s_l_like) w_l_like1 := fun cdv A outer s H E hr tk =>
  (psd_cons (psd_if (ptd_val (pd_isi kit_tup (by rfl) T.b_isinstance (pd_var 1) (pe_bltn (by rfl) T.b_tuple (by decide +kernel) rfl)))
  (psd_cons (psd_if (PWd.pt (pwd_or (ptd_not (ptd_val (pd_isi kit_tup (by rfl) T.b_isinstance (pd_var 0) (pe_bltn (by rfl) T.b_tuple (by decide +kernel) rfl)))) (pwd_or1 (ptd_cmp (op_neD hr.units) opd_ne (pd_cb cad_len call_len (by rfl) T.b_len PySem.boot_len (pad_cons (pd_var 0) pad_nil)) (pd_cb cad_len call_len (by rfl) T.b_len PySem.boot_len (pad_cons (pd_var 1) pad_nil)) (nomark _)))))
  (psd_one (psd_ret pd_bl))
  psd_nil)
  (psd_cons (psd_for .leaving rfl (pid_rng1 (by rfl) T.b_range (pd_cb cad_len call_len (by rfl) T.b_len PySem.boot_len (pad_cons (pd_var 1) pad_nil))) (pg_name (i := 2) sc_l_like.nd rfl (by first | exact Or.inl rfl | exact Or.inr rfl)) bnd_name
  (psd_one (psd_if (ptd_not (ptd_val (pd_call tk H_l_like.F (hr.mono (by decide)) (by rfl) H_l_like.m H_l_like.kp H_l_like.b (pad_cons (pd_ix ix_seq opd_ix (pd_var 0) (pd_var 2) (fun _ _ => rfl)) (pad_cons (pd_ix ix_seq opd_ix (pd_var 1) (pd_var 2) (fun _ _ => rfl)) pad_nil)))))
  (psd_one (psd_ret pd_bl))
  psd_nil)))
  (psd_one (psd_ret pd_bl))))
  psd_nil)
  (psd_cons (psd_if (ptd_val (pd_isi kit_bool (by rfl) T.b_isinstance (pd_var 1) (pe_bltn (by rfl) T.b_bool (by decide +kernel) rfl)))
  (psd_one (psd_ret (pd_and (pd_isi kit_bool (by rfl) T.b_isinstance (pd_var 0) (pe_bltn (by rfl) T.b_bool (by decide +kernel) rfl)) (pd_one (pd_cmp (op_eqD hr.units) opd_eq (pd_var 0) (pd_var 1) (nomark _))))))
  psd_nil)
  (psd_cons (psd_if (ptd_val (pd_isi kit_int (by rfl) T.b_isinstance (pd_var 1) (pe_bltn (by rfl) T.b_int (by decide +kernel) rfl)))
  (psd_one (psd_ret (pd_and (pd_call tk H_l_whole.F (hr.mono (by decide)) (by rfl) H_l_whole.m H_l_whole.kp H_l_whole.b (pad_cons (pd_var 0) pad_nil)) (pd_one (pd_cmp (op_eqD hr.units) opd_eq (pd_var 0) (pd_var 1) (nomark _))))))
  psd_nil)
  (psd_one (psd_ret (pd_and (pd_isi kit_str (by rfl) T.b_isinstance (pd_var 0) (pe_bltn (by rfl) T.b_str (by decide +kernel) rfl)) (pd_one (pd_cmp (op_eqD hr.units) opd_eq (pd_var 0) (pd_var 1) (nomark _)))))))))
abbrev s_l_kin : Stmt := topS 62
abbrev N_l_kin : List Str := ["_law_e"]
theorem sc_l_kin : FnScope N_l_kin ["_law_e"] (defScope s_l_kin) := ⟨rfl, rfl, rfl, by decide +kernel, rfl, by decide +kernel, by decide +kernel⟩
def w_l_kin (C : Addr) (a : Addr) (d : Option Addr) : WS := (wSeq (wIfS (wOr (wNot (wTst (wIsx 0 a (.ref C) d C true))) (wOr (wNot (wTst (wIsx 0 a (.ref C) d C true))) (wNot (wTst (wIsx 0 a (.ref C) d C true)))))
  (wRet (wC (.bool false)))
  wNext)
  (wSeq (wIfS (wOr (wTst (wIsx 0 a (.ref C) d C false)) (wOr (wTst (wIsx 0 a (.ref C) d C false)) (wTst (wIsx 0 a (.ref C) d C false))))
  (wRet (wC (.bool false)))
  wNext)
  (wRet (vNot (wIsx 0 a (.ref C) d C false)))))
theorem dx_l_kin {a_l_kin : Addr} (T : Tx K mg C fI fdI ad) : ∀ (cdv : Value) (A : Around) (outer : List Env) (s : Shared) (H : Hp) (E : XK) (p : Addr × Obj) (d : Option Addr), L2N.Zn (.ref C) d p.2 → (∃ vs, p.2.data = .fields vs) → L2H.RoomH 0 (L2H.cxH (L2N.CX P w) P w K mg base N_l_kin "_law_kin" (defScope s_l_kin) a_l_kin cdv A outer s H E p).A →
    PSsd (L2H.cxH (L2N.CX P w) P w K mg base N_l_kin "_law_kin" (defScope s_l_kin) a_l_kin cdv A outer s H E p) (fun cls d _ H => E cls d H) (defBody s_l_kin) (w_l_kin C p.1 d) := fun cdv A outer s H E p d hz hf hr => by
  have hp : (p.1, p.2) ∈ (L2H.cxH (L2N.CX P w) P w K mg base N_l_kin "_law_kin" (defScope s_l_kin) a_l_kin cdv A outer s H E p).pn := List.mem_cons_self
  exact (psd_cons (psd_if (PWd.pt (pwd_or (ptd_not (ptd_val (pd_isx 0 (c := .ref ad.PlanError) (cv := .ref ad.PlanError) T.xc hz hf hp (fun _ h => h) T.k_PlanError (by rfl) T.b_isinstance (pv 0) (pe_glob (by rfl) T.m_PlanError rfl)))) (pwd_or (ptd_not (ptd_val (pd_isx 0 (c := .ref ad.HangError) (cv := .ref ad.HangError) T.xc hz hf hp (fun _ h => h) T.k_HangError (by rfl) T.b_isinstance (pv 0) (pe_glob (by rfl) T.m_HangError rfl)))) (pwd_or1 (ptd_not (ptd_val (pd_isx 0 (c := .ty "ValueError") (cv := .type "ValueError") T.xc hz hf hp (fun _ h => h) T.k_ValueError (by rfl) T.b_isinstance (pv 0) (pe_bltn (v := .ty "ValueError") (u := .type "ValueError") (by rfl) T.b_ValueError (by decide +kernel) rfl))))))))
  (psd_one (psd_ret pd_bl))
  psd_nil)
  (psd_cons (psd_if (PWd.pt (pwd_or (ptd_val (pd_isx 0 (c := .ref ad.PaperError) (cv := .ref ad.PaperError) T.xc hz hf hp (fun _ h => h) T.k_PaperError (by rfl) T.b_isinstance (pv 0) (pe_glob (by rfl) T.m_PaperError rfl))) (pwd_or (ptd_val (pd_isx 0 (c := .ref ad.LiveError) (cv := .ref ad.LiveError) T.xc hz hf hp (fun _ h => h) T.k_LiveError (by rfl) T.b_isinstance (pv 0) (pe_glob (by rfl) T.m_LiveError rfl))) (pwd_or1 (ptd_val (pd_isx 0 (c := .ref ad.TextError) (cv := .ref ad.TextError) T.xc hz hf hp (fun _ h => h) T.k_TextError (by rfl) T.b_isinstance (pv 0) (pe_glob (by rfl) T.m_TextError rfl)))))))
  (psd_one (psd_ret pd_bl))
  psd_nil)
  (psd_one (psd_ret (pd_not (pd_isx 0 (c := .ref ad.Unfit) (cv := .ref ad.Unfit) T.xc hz hf hp (fun _ h => h) T.k_Unfit (by rfl) T.b_isinstance (pv 0) (pe_glob (by rfl) T.m_Unfit rfl)))))))
abbrev s_l_two : Stmt := topS 63
abbrev N_l_two : List Str := ["_law_deed", "_law_left", "_law_right", "_law_named", "_law_e"]
theorem sc_l_two : FnScope N_l_two ["_law_deed", "_law_left", "_law_right", "_law_named"] (defScope s_l_two) := ⟨rfl, rfl, rfl, by decide +kernel, rfl, by decide +kernel, by decide +kernel⟩
def w_l_two (C : Addr) : WS := (wTry C 4 (wSeq (wIfS (wTst (wOp fEq (wVar 0) (wC (.int 0))))
  (wRet (wTup (aCons (wC (.str "told")) (aCons (wIf (wTst (wVar 3)) (wCallK 2 2 [1, 0] (c_plus C) (aCons (wVar 2) (aCons (wVar 1) aNil))) (wCall 2 (c_plus C) (aCons (wVar 1) (aCons (wVar 2) aNil)))) aNil))))
  wNext)
  (wSeq (wIfS (wTst (wOp fEq (wVar 0) (wC (.int 1))))
  (wRet (wTup (aCons (wC (.str "told")) (aCons (wIf (wTst (wVar 3)) (wCallK 2 2 [1, 0] (c_minus C) (aCons (wVar 2) (aCons (wVar 1) aNil))) (wCall 2 (c_minus C) (aCons (wVar 1) (aCons (wVar 2) aNil)))) aNil))))
  wNext)
  (wSeq (wIfS (wTst (wOp fEq (wVar 0) (wC (.int 2))))
  (wRet (wTup (aCons (wC (.str "told")) (aCons (wIf (wTst (wVar 3)) (wCallK 2 2 [1, 0] (c_times C) (aCons (wVar 2) (aCons (wVar 1) aNil))) (wCall 2 (c_times C) (aCons (wVar 1) (aCons (wVar 2) aNil)))) aNil))))
  wNext)
  (wSeq (wIfS (wTst (wOp fEq (wVar 0) (wC (.int 3))))
  (wRet (wTup (aCons (wC (.str "told")) (aCons (wIf (wTst (wVar 3)) (wCallK 2 2 [1, 0] (c_over C) (aCons (wVar 2) (aCons (wVar 1) aNil))) (wCall 2 (c_over C) (aCons (wVar 1) (aCons (wVar 2) aNil)))) aNil))))
  wNext)
  (wSeq (wIfS (wTst (wOp fEq (wVar 0) (wC (.int 4))))
  (wRet (wTup (aCons (wC (.str "told")) (aCons (wIf (wTst (wVar 3)) (wCallK 2 2 [1, 0] (c_is_less C) (aCons (wVar 2) (aCons (wVar 1) aNil))) (wCall 2 (c_is_less C) (aCons (wVar 1) (aCons (wVar 2) aNil)))) aNil))))
  wNext)
  (wSeq (wIfS (wTst (wOp fEq (wVar 0) (wC (.int 5))))
  (wRet (wTup (aCons (wC (.str "told")) (aCons (wIf (wTst (wVar 3)) (wCallK 2 2 [1, 0] (c_is_shapes C) (aCons (wVar 2) (aCons (wVar 1) aNil))) (wCall 2 (c_is_shapes C) (aCons (wVar 1) (aCons (wVar 2) aNil)))) aNil))))
  wNext)
  (wSeq (wIfS (wTst (wOp fEq (wVar 0) (wC (.int 6))))
  (wRet (wTup (aCons (wC (.str "told")) (aCons (wIf (wTst (wVar 3)) (wCallK 2 2 [1, 0] (c_is_table C) (aCons (wVar 2) (aCons (wVar 1) aNil))) (wCall 2 (c_is_table C) (aCons (wVar 1) (aCons (wVar 2) aNil)))) aNil))))
  wNext)
  (wRet (wTup (aCons (wC (.str "told")) (aCons (wIf (wTst (wVar 3)) (wCallK 2 2 [1, 0] (c_is_place C) (aCons (wVar 2) (aCons (wVar 1) aNil))) (wCall 2 (c_is_place C) (aCons (wVar 1) (aCons (wVar 2) aNil)))) aNil)))))))))))
  (fun a c dd => (wSeq (wIfS (wNot (wTst (wCallX 4 a c dd (c_l_kin C))))
  (wRet (wTup (aCons (wC (.str "strange")) aNil)))
  wNext)
  (wRet (wTup (aCons (wC (.str "refused")) (aCons (wXf 4 a c dd C "word") (aCons (wXf 4 a c dd C "at") aNil))))))))
theorem d_l_two {a_l_two : Addr} (T : Tx K mg C fI fdI ad) {a_is_table : Addr} {fd_is_table : FuncData} {a_is_shapes : Addr} {fd_is_shapes : FuncData} {a_is_less : Addr} {fd_is_less : FuncData} {a_over : Addr} {fd_over : FuncData} {a_times : Addr} {fd_times : FuncData} {a_minus : Addr} {fd_minus : FuncData} {a_plus : Addr} {fd_plus : FuncData} {a_l_kin : Addr} {fd_l_kin : FuncData} {a_is_place : Addr} {fd_is_place : FuncData} (H_is_place : Cl P w K mg base 4 "is_place" s_is_place ["many", "thing"] 2 (c_is_place C) a_is_place fd_is_place) (HX_l_kin : ClX P w K mg base 1 "_law_kin" "_law_e" (c_l_kin C) a_l_kin fd_l_kin) (H_plus : Cl P w K mg base 5 "plus" s_plus ["one", "other"] 2 (c_plus C) a_plus fd_plus) (H_minus : Cl P w K mg base 5 "minus" s_minus ["one", "other"] 2 (c_minus C) a_minus fd_minus) (H_times : Cl P w K mg base 5 "times" s_times ["one", "other"] 2 (c_times C) a_times fd_times) (H_over : Cl P w K mg base 5 "over" s_over ["one", "other"] 2 (c_over C) a_over fd_over) (H_is_less : Cl P w K mg base 5 "is_less" s_is_less ["one", "other"] 2 (c_is_less C) a_is_less fd_is_less) (H_is_shapes : Cl P w K mg base 5 "is_shapes" s_is_shapes ["many", "thing"] 2 (c_is_shapes C) a_is_shapes fd_is_shapes) (H_is_table : Cl P w K mg base 4 "is_table" s_is_table ["many", "thing"] 2 (c_is_table C) a_is_table fd_is_table) : ∀ (cdv : Value) (A : Around) (outer : List Env) (s : Shared) (H : Hp) (E : XK), Room 5 (cxOf (L2N.CX P w) P w K mg base N_l_two "_law_two" (defScope s_l_two) a_l_two cdv A outer s H E).A → L2N.Takes (cxOf (L2N.CX P w) P w K mg base N_l_two "_law_two" (defScope s_l_two) a_l_two cdv A outer s H E) (fun cls d _ H => E cls d H) →
    PSsd (cxOf (L2N.CX P w) P w K mg base N_l_two "_law_two" (defScope s_l_two) a_l_two cdv A outer s H E) (fun cls d _ H => E cls d H) (defBody s_l_two) (w_l_two C) := fun cdv A outer s H E hr tk =>
  (psd_one (psd_try (i := 4) rfl rfl sc_l_two.nd rfl rfl ⟨by rfl, by decide, .inl T.m_C⟩ T.exm
  (fun W2 pn xe tk2 po2 => (psd_cons (psd_if (ptd_cmp (op_eqD hr.units) opd_eq (pd_var 0) pd_int (nomark _))
  (psd_one (psd_ret (pd_tup (pad_cons pd_str (pad_cons (pd_if (ptd_val (pd_var 3)) (pd_callK tk2 H_plus.F (hr.mono (by decide)) (by rfl) H_plus.m H_plus.kp (kw_mk H_plus.fn ["other", "one"] [1, 0] (fun _ _ _ _ _ _ ws hl => match ws, hl with | [_, _], _ => rfl)) (pkd_cons (pd_var 2) (pkd_cons (pd_var 1) pkd_nil))) (pd_call tk2 H_plus.F (hr.mono (by decide)) (by rfl) H_plus.m H_plus.kp H_plus.b (pad_cons (pd_var 1) (pad_cons (pd_var 2) pad_nil)))) pad_nil)))))
  psd_nil)
  (psd_cons (psd_if (ptd_cmp (op_eqD hr.units) opd_eq (pd_var 0) pd_int (nomark _))
  (psd_one (psd_ret (pd_tup (pad_cons pd_str (pad_cons (pd_if (ptd_val (pd_var 3)) (pd_callK tk2 H_minus.F (hr.mono (by decide)) (by rfl) H_minus.m H_minus.kp (kw_mk H_minus.fn ["other", "one"] [1, 0] (fun _ _ _ _ _ _ ws hl => match ws, hl with | [_, _], _ => rfl)) (pkd_cons (pd_var 2) (pkd_cons (pd_var 1) pkd_nil))) (pd_call tk2 H_minus.F (hr.mono (by decide)) (by rfl) H_minus.m H_minus.kp H_minus.b (pad_cons (pd_var 1) (pad_cons (pd_var 2) pad_nil)))) pad_nil)))))
  psd_nil)
  (psd_cons (psd_if (ptd_cmp (op_eqD hr.units) opd_eq (pd_var 0) pd_int (nomark _))
  (psd_one (psd_ret (pd_tup (pad_cons pd_str (pad_cons (pd_if (ptd_val (pd_var 3)) (pd_callK tk2 H_times.F (hr.mono (by decide)) (by rfl) H_times.m H_times.kp (kw_mk H_times.fn ["other", "one"] [1, 0] (fun _ _ _ _ _ _ ws hl => match ws, hl with | [_, _], _ => rfl)) (pkd_cons (pd_var 2) (pkd_cons (pd_var 1) pkd_nil))) (pd_call tk2 H_times.F (hr.mono (by decide)) (by rfl) H_times.m H_times.kp H_times.b (pad_cons (pd_var 1) (pad_cons (pd_var 2) pad_nil)))) pad_nil)))))
  psd_nil)
  (psd_cons (psd_if (ptd_cmp (op_eqD hr.units) opd_eq (pd_var 0) pd_int (nomark _))
  (psd_one (psd_ret (pd_tup (pad_cons pd_str (pad_cons (pd_if (ptd_val (pd_var 3)) (pd_callK tk2 H_over.F (hr.mono (by decide)) (by rfl) H_over.m H_over.kp (kw_mk H_over.fn ["other", "one"] [1, 0] (fun _ _ _ _ _ _ ws hl => match ws, hl with | [_, _], _ => rfl)) (pkd_cons (pd_var 2) (pkd_cons (pd_var 1) pkd_nil))) (pd_call tk2 H_over.F (hr.mono (by decide)) (by rfl) H_over.m H_over.kp H_over.b (pad_cons (pd_var 1) (pad_cons (pd_var 2) pad_nil)))) pad_nil)))))
  psd_nil)
  (psd_cons (psd_if (ptd_cmp (op_eqD hr.units) opd_eq (pd_var 0) pd_int (nomark _))
  (psd_one (psd_ret (pd_tup (pad_cons pd_str (pad_cons (pd_if (ptd_val (pd_var 3)) (pd_callK tk2 H_is_less.F (hr.mono (by decide)) (by rfl) H_is_less.m H_is_less.kp (kw_mk H_is_less.fn ["other", "one"] [1, 0] (fun _ _ _ _ _ _ ws hl => match ws, hl with | [_, _], _ => rfl)) (pkd_cons (pd_var 2) (pkd_cons (pd_var 1) pkd_nil))) (pd_call tk2 H_is_less.F (hr.mono (by decide)) (by rfl) H_is_less.m H_is_less.kp H_is_less.b (pad_cons (pd_var 1) (pad_cons (pd_var 2) pad_nil)))) pad_nil)))))
  psd_nil)
  (psd_cons (psd_if (ptd_cmp (op_eqD hr.units) opd_eq (pd_var 0) pd_int (nomark _))
  (psd_one (psd_ret (pd_tup (pad_cons pd_str (pad_cons (pd_if (ptd_val (pd_var 3)) (pd_callK tk2 H_is_shapes.F (hr.mono (by decide)) (by rfl) H_is_shapes.m H_is_shapes.kp (kw_mk H_is_shapes.fn ["thing", "many"] [1, 0] (fun _ _ _ _ _ _ ws hl => match ws, hl with | [_, _], _ => rfl)) (pkd_cons (pd_var 2) (pkd_cons (pd_var 1) pkd_nil))) (pd_call tk2 H_is_shapes.F (hr.mono (by decide)) (by rfl) H_is_shapes.m H_is_shapes.kp H_is_shapes.b (pad_cons (pd_var 1) (pad_cons (pd_var 2) pad_nil)))) pad_nil)))))
  psd_nil)
  (psd_cons (psd_if (ptd_cmp (op_eqD hr.units) opd_eq (pd_var 0) pd_int (nomark _))
  (psd_one (psd_ret (pd_tup (pad_cons pd_str (pad_cons (pd_if (ptd_val (pd_var 3)) (pd_callK tk2 H_is_table.F (hr.mono (by decide)) (by rfl) H_is_table.m H_is_table.kp (kw_mk H_is_table.fn ["thing", "many"] [1, 0] (fun _ _ _ _ _ _ ws hl => match ws, hl with | [_, _], _ => rfl)) (pkd_cons (pd_var 2) (pkd_cons (pd_var 1) pkd_nil))) (pd_call tk2 H_is_table.F (hr.mono (by decide)) (by rfl) H_is_table.m H_is_table.kp H_is_table.b (pad_cons (pd_var 1) (pad_cons (pd_var 2) pad_nil)))) pad_nil)))))
  psd_nil)
  (psd_one (psd_ret (pd_tup (pad_cons pd_str (pad_cons (pd_if (ptd_val (pd_var 3)) (pd_callK tk2 H_is_place.F (hr.mono (by decide)) (by rfl) H_is_place.m H_is_place.kp (kw_mk H_is_place.fn ["thing", "many"] [1, 0] (fun _ _ _ _ _ _ ws hl => match ws, hl with | [_, _], _ => rfl)) (pkd_cons (pd_var 2) (pkd_cons (pd_var 1) pkd_nil))) (pd_call tk2 H_is_place.F (hr.mono (by decide)) (by rfl) H_is_place.m H_is_place.kp H_is_place.b (pad_cons (pd_var 1) (pad_cons (pd_var 2) pad_nil)))) pad_nil)))))))))))))
  (fun a oe c dd pn hz hf => (psd_cons (psd_if (ptd_not (ptd_val (pd_callX 4 hz hf HX_l_kin.F (roomH_suite (hr.mono (by decide))) (by rfl) HX_l_kin.m HX_l_kin.kp HX_l_kin.b (pv 4))))
  (psd_one (psd_ret (pd_tup (pad_cons pd_str pad_nil))))
  psd_nil)
  (psd_one (psd_ret (pd_tup (pad_cons pd_str (pad_cons (pd_xf 4 T.xf T.no_word hz hf (pv 4)) (pad_cons (pd_xf 4 T.xf T.no_at hz hf (pv 4)) pad_nil))))))))))
abbrev s_l_single : Stmt := topS 64
abbrev N_l_single : List Str := ["_law_deed", "_law_value_here", "_law_named", "_law_e"]
theorem sc_l_single : FnScope N_l_single ["_law_deed", "_law_value_here", "_law_named"] (defScope s_l_single) := ⟨rfl, rfl, rfl, by decide +kernel, rfl, by decide +kernel, by decide +kernel⟩
def w_l_single (C : Addr) : WS := (wTry C 3 (wSeq (wIfS (wTst (wOp fEq (wVar 0) (wC (.int 0))))
  (wRet (wTup (aCons (wC (.str "told")) (aCons (wIf (wTst (wVar 2)) (wCallK 1 1 [0] c_is_integer (aCons (wVar 1) aNil)) (wCall 1 c_is_integer (aCons (wVar 1) aNil))) aNil))))
  wNext)
  (wSeq (wIfS (wTst (wOp fEq (wVar 0) (wC (.int 1))))
  (wRet (wTup (aCons (wC (.str "told")) (aCons (wIf (wTst (wVar 2)) (wCallK 1 1 [0] c_is_quotient (aCons (wVar 1) aNil)) (wCall 1 c_is_quotient (aCons (wVar 1) aNil))) aNil))))
  wNext)
  (wSeq (wIfS (wTst (wOp fEq (wVar 0) (wC (.int 2))))
  (wRet (wTup (aCons (wC (.str "told")) (aCons (wIf (wTst (wVar 2)) (wCallK 1 1 [0] c_is_positive (aCons (wVar 1) aNil)) (wCall 1 c_is_positive (aCons (wVar 1) aNil))) aNil))))
  wNext)
  (wSeq (wIfS (wTst (wOp fEq (wVar 0) (wC (.int 3))))
  (wRet (wTup (aCons (wC (.str "told")) (aCons (wIf (wTst (wVar 2)) (wCallK 1 1 [0] (c_side_after C) (aCons (wVar 1) aNil)) (wCall 1 (c_side_after C) (aCons (wVar 1) aNil))) aNil))))
  wNext)
  (wSeq (wIfS (wTst (wOp fEq (wVar 0) (wC (.int 4))))
  (wRet (wTup (aCons (wC (.str "told")) (aCons (wIf (wTst (wVar 2)) (wCallK 1 1 [0] (c_side_opposite C) (aCons (wVar 1) aNil)) (wCall 1 (c_side_opposite C) (aCons (wVar 1) aNil))) aNil))))
  wNext)
  (wRet (wTup (aCons (wC (.str "told")) (aCons (wIf (wTst (wVar 2)) (wCallK 1 1 [0] (c_place_letter C) (aCons (wVar 1) aNil)) (wCall 1 (c_place_letter C) (aCons (wVar 1) aNil))) aNil)))))))))
  (fun a c dd => (wSeq (wIfS (wNot (wTst (wCallX 3 a c dd (c_l_kin C))))
  (wRet (wTup (aCons (wC (.str "strange")) aNil)))
  wNext)
  (wRet (wTup (aCons (wC (.str "refused")) (aCons (wXf 3 a c dd C "word") (aCons (wXf 3 a c dd C "at") aNil))))))))
theorem d_l_single {a_l_single : Addr} (T : Tx K mg C fI fdI ad) {a_side_opposite : Addr} {fd_side_opposite : FuncData} {a_side_after : Addr} {fd_side_after : FuncData} {a_is_positive : Addr} {fd_is_positive : FuncData} {a_is_quotient : Addr} {fd_is_quotient : FuncData} {a_is_integer : Addr} {fd_is_integer : FuncData} {a_l_kin : Addr} {fd_l_kin : FuncData} {a_place_letter : Addr} {fd_place_letter : FuncData} (H_place_letter : Cl P w K mg base 4 "place_letter" s_place_letter ["place"] 1 (c_place_letter C) a_place_letter fd_place_letter) (HX_l_kin : ClX P w K mg base 1 "_law_kin" "_law_e" (c_l_kin C) a_l_kin fd_l_kin) (H_is_integer : Cl P w K mg base 1 "is_integer" s_is_integer ["thing"] 1 c_is_integer a_is_integer fd_is_integer) (H_is_quotient : Cl P w K mg base 2 "is_quotient" s_is_quotient ["thing"] 1 c_is_quotient a_is_quotient fd_is_quotient) (H_is_positive : Cl P w K mg base 3 "is_positive" s_is_positive ["thing"] 1 c_is_positive a_is_positive fd_is_positive) (H_side_after : Cl P w K mg base 4 "side_after" s_side_after ["side"] 1 (c_side_after C) a_side_after fd_side_after) (H_side_opposite : Cl P w K mg base 4 "side_opposite" s_side_opposite ["side"] 1 (c_side_opposite C) a_side_opposite fd_side_opposite) : ∀ (cdv : Value) (A : Around) (outer : List Env) (s : Shared) (H : Hp) (E : XK), Room 4 (cxOf (L2N.CX P w) P w K mg base N_l_single "_law_single" (defScope s_l_single) a_l_single cdv A outer s H E).A → L2N.Takes (cxOf (L2N.CX P w) P w K mg base N_l_single "_law_single" (defScope s_l_single) a_l_single cdv A outer s H E) (fun cls d _ H => E cls d H) →
    PSsd (cxOf (L2N.CX P w) P w K mg base N_l_single "_law_single" (defScope s_l_single) a_l_single cdv A outer s H E) (fun cls d _ H => E cls d H) (defBody s_l_single) (w_l_single C) := fun cdv A outer s H E hr tk =>
  (psd_one (psd_try (i := 3) rfl rfl sc_l_single.nd rfl rfl ⟨by rfl, by decide, .inl T.m_C⟩ T.exm
  (fun W2 pn xe tk2 po2 => (psd_cons (psd_if (ptd_cmp (op_eqD hr.units) opd_eq (pd_var 0) pd_int (nomark _))
  (psd_one (psd_ret (pd_tup (pad_cons pd_str (pad_cons (pd_if (ptd_val (pd_var 2)) (pd_callK tk2 H_is_integer.F (hr.mono (by decide)) (by rfl) H_is_integer.m H_is_integer.kp (kw_mk H_is_integer.fn ["thing"] [0] (fun _ _ _ _ _ _ ws hl => match ws, hl with | [_], _ => rfl)) (pkd_cons (pd_var 1) pkd_nil)) (pd_call tk2 H_is_integer.F (hr.mono (by decide)) (by rfl) H_is_integer.m H_is_integer.kp H_is_integer.b (pad_cons (pd_var 1) pad_nil))) pad_nil)))))
  psd_nil)
  (psd_cons (psd_if (ptd_cmp (op_eqD hr.units) opd_eq (pd_var 0) pd_int (nomark _))
  (psd_one (psd_ret (pd_tup (pad_cons pd_str (pad_cons (pd_if (ptd_val (pd_var 2)) (pd_callK tk2 H_is_quotient.F (hr.mono (by decide)) (by rfl) H_is_quotient.m H_is_quotient.kp (kw_mk H_is_quotient.fn ["thing"] [0] (fun _ _ _ _ _ _ ws hl => match ws, hl with | [_], _ => rfl)) (pkd_cons (pd_var 1) pkd_nil)) (pd_call tk2 H_is_quotient.F (hr.mono (by decide)) (by rfl) H_is_quotient.m H_is_quotient.kp H_is_quotient.b (pad_cons (pd_var 1) pad_nil))) pad_nil)))))
  psd_nil)
  (psd_cons (psd_if (ptd_cmp (op_eqD hr.units) opd_eq (pd_var 0) pd_int (nomark _))
  (psd_one (psd_ret (pd_tup (pad_cons pd_str (pad_cons (pd_if (ptd_val (pd_var 2)) (pd_callK tk2 H_is_positive.F (hr.mono (by decide)) (by rfl) H_is_positive.m H_is_positive.kp (kw_mk H_is_positive.fn ["thing"] [0] (fun _ _ _ _ _ _ ws hl => match ws, hl with | [_], _ => rfl)) (pkd_cons (pd_var 1) pkd_nil)) (pd_call tk2 H_is_positive.F (hr.mono (by decide)) (by rfl) H_is_positive.m H_is_positive.kp H_is_positive.b (pad_cons (pd_var 1) pad_nil))) pad_nil)))))
  psd_nil)
  (psd_cons (psd_if (ptd_cmp (op_eqD hr.units) opd_eq (pd_var 0) pd_int (nomark _))
  (psd_one (psd_ret (pd_tup (pad_cons pd_str (pad_cons (pd_if (ptd_val (pd_var 2)) (pd_callK tk2 H_side_after.F (hr.mono (by decide)) (by rfl) H_side_after.m H_side_after.kp (kw_mk H_side_after.fn ["side"] [0] (fun _ _ _ _ _ _ ws hl => match ws, hl with | [_], _ => rfl)) (pkd_cons (pd_var 1) pkd_nil)) (pd_call tk2 H_side_after.F (hr.mono (by decide)) (by rfl) H_side_after.m H_side_after.kp H_side_after.b (pad_cons (pd_var 1) pad_nil))) pad_nil)))))
  psd_nil)
  (psd_cons (psd_if (ptd_cmp (op_eqD hr.units) opd_eq (pd_var 0) pd_int (nomark _))
  (psd_one (psd_ret (pd_tup (pad_cons pd_str (pad_cons (pd_if (ptd_val (pd_var 2)) (pd_callK tk2 H_side_opposite.F (hr.mono (by decide)) (by rfl) H_side_opposite.m H_side_opposite.kp (kw_mk H_side_opposite.fn ["side"] [0] (fun _ _ _ _ _ _ ws hl => match ws, hl with | [_], _ => rfl)) (pkd_cons (pd_var 1) pkd_nil)) (pd_call tk2 H_side_opposite.F (hr.mono (by decide)) (by rfl) H_side_opposite.m H_side_opposite.kp H_side_opposite.b (pad_cons (pd_var 1) pad_nil))) pad_nil)))))
  psd_nil)
  (psd_one (psd_ret (pd_tup (pad_cons pd_str (pad_cons (pd_if (ptd_val (pd_var 2)) (pd_callK tk2 H_place_letter.F (hr.mono (by decide)) (by rfl) H_place_letter.m H_place_letter.kp (kw_mk H_place_letter.fn ["place"] [0] (fun _ _ _ _ _ _ ws hl => match ws, hl with | [_], _ => rfl)) (pkd_cons (pd_var 1) pkd_nil)) (pd_call tk2 H_place_letter.F (hr.mono (by decide)) (by rfl) H_place_letter.m H_place_letter.kp H_place_letter.b (pad_cons (pd_var 1) pad_nil))) pad_nil)))))))))))
  (fun a oe c dd pn hz hf => (psd_cons (psd_if (ptd_not (ptd_val (pd_callX 3 hz hf HX_l_kin.F (roomH_suite (hr.mono (by decide))) (by rfl) HX_l_kin.m HX_l_kin.kp HX_l_kin.b (pv 3))))
  (psd_one (psd_ret (pd_tup (pad_cons pd_str pad_nil))))
  psd_nil)
  (psd_one (psd_ret (pd_tup (pad_cons pd_str (pad_cons (pd_xf 3 T.xf T.no_word hz hf (pv 3)) (pad_cons (pd_xf 3 T.xf T.no_at hz hf (pv 3)) pad_nil))))))))))
abbrev s_l_all_of : Stmt := topS 65
abbrev N_l_all_of : List Str := ["_law_count", "_law_value_here", "_law_least", "_law_part"]
theorem sc_l_all_of : FnScope N_l_all_of ["_law_count", "_law_value_here", "_law_least"] (defScope s_l_all_of) := ⟨rfl, rfl, rfl, by decide +kernel, rfl, by decide +kernel, by decide +kernel⟩
def w_l_all_of  : WS := (wSeq (wIfS (wOr (wNot (wTst (wIsi isTup (wVar 1)))) (wTst (wOp fNe (wCB fLen (aCons (wVar 1) aNil)) (wVar 0))))
  (wRet (wC (.bool false)))
  wNext)
  (wSeq (wFor (wSeqI (wVar 1)) [3] bName
  (wIfS (wOr (wNot (wTst (wCall 1 c_l_quotient (aCons (wVar 3) aNil)))) (wTst (wOp fLt (wOp fIx (wVar 3) (wC (.int 0))) (wVar 2))))
  (wRet (wC (.bool false)))
  wNext))
  (wRet (wC (.bool true)))))
theorem d_l_all_of {a_l_all_of : Addr} (T : Tx K mg C fI fdI ad) {a_l_quotient : Addr} {fd_l_quotient : FuncData} (H_l_quotient : Cl P w K mg base 2 "_law_quotient" s_l_quotient ["_law_value_here"] 1 c_l_quotient a_l_quotient fd_l_quotient) : ∀ (cdv : Value) (A : Around) (outer : List Env) (s : Shared) (H : Hp) (E : XK), Room 2 (cxOf (L2N.CX P w) P w K mg base N_l_all_of "_law_all_of" (defScope s_l_all_of) a_l_all_of cdv A outer s H E).A → L2N.Takes (cxOf (L2N.CX P w) P w K mg base N_l_all_of "_law_all_of" (defScope s_l_all_of) a_l_all_of cdv A outer s H E) (fun cls d _ H => E cls d H) →
    PSsd (cxOf (L2N.CX P w) P w K mg base N_l_all_of "_law_all_of" (defScope s_l_all_of) a_l_all_of cdv A outer s H E) (fun cls d _ H => E cls d H) (defBody s_l_all_of) w_l_all_of := fun cdv A outer s H E hr tk =>
  (psd_cons (psd_if (PWd.pt (pwd_or (ptd_not (ptd_val (pd_isi kit_tup (by rfl) T.b_isinstance (pd_var 1) (pe_bltn (by rfl) T.b_tuple (by decide +kernel) rfl)))) (pwd_or1 (ptd_cmp (op_neD hr.units) opd_ne (pd_cb cad_len call_len (by rfl) T.b_len PySem.boot_len (pad_cons (pd_var 1) pad_nil)) (pd_var 0) (nomark _)))))
  (psd_one (psd_ret pd_bl))
  psd_nil)
  (psd_cons (psd_for .leaving rfl (pid_seq (pd_var 1)) (pg_name (i := 3) sc_l_all_of.nd rfl (by first | exact Or.inl rfl | exact Or.inr rfl)) bnd_name
  (psd_one (psd_if (PWd.pt (pwd_or (ptd_not (ptd_val (pd_call tk H_l_quotient.F (hr.mono (by decide)) (by rfl) H_l_quotient.m H_l_quotient.kp H_l_quotient.b (pad_cons (pd_var 3) pad_nil)))) (pwd_or1 (ptd_cmp op_lt opd_lt (pd_ix ix_seq opd_ix (pd_var 3) pd_int (fun _ _ => rfl)) (pd_var 2) (nomark _)))))
  (psd_one (psd_ret pd_bl))
  psd_nil)))
  (psd_one (psd_ret pd_bl))))
abbrev s_l_reckoned : Stmt := topS 66
abbrev N_l_reckoned : List Str := ["_law_deed", "_law_left", "_law_right", "_law_told", "_law_top", "_law_bottom"]
theorem sc_l_reckoned : FnScope N_l_reckoned ["_law_deed", "_law_left", "_law_right", "_law_told"] (defScope s_l_reckoned) := ⟨rfl, rfl, rfl, by decide +kernel, rfl, by decide +kernel, by decide +kernel⟩
def w_l_reckoned  : WS := (wSeq (wIfS (wTst (wOp fEq (wVar 0) (wC (.int 4))))
  (wRet (wCall 2 c_l_like1 (aCons (wVar 3) (aCons (wTup (aCons (wC (.str "told")) (aCons (wOp fLt (wOp fMulA (wOp fIx (wVar 1) (wC (.int 0))) (wOp fIx (wVar 2) (wC (.int 1)))) (wOp fMulA (wOp fIx (wVar 2) (wC (.int 0))) (wOp fIx (wVar 1) (wC (.int 1))))) aNil))) aNil))))
  wNext)
  (wSeq (wIfS (wOr (wNot (wTst (wIsi isTup (wVar 3)))) (wOr (wTst (wOp fNe (wCB fLen (aCons (wVar 3) aNil)) (wC (.int 2)))) (wOr (wTst (wOp fNe (wOp fIx (wVar 3) (wC (.int 0))) (wC (.str "told")))) (wNot (wTst (wCall 1 c_l_quotient (aCons (wOp fIx (wVar 3) (wC (.int 1))) aNil)))))))
  (wRet (wC (.bool false)))
  wNext)
  (wSeq (wAsg 4 (wOp fAdd (wOp fMulA (wOp fIx (wVar 1) (wC (.int 0))) (wOp fIx (wVar 2) (wC (.int 1)))) (wOp fMulA (wOp fIx (wVar 2) (wC (.int 0))) (wOp fIx (wVar 1) (wC (.int 1))))))
  (wSeq (wAsg 5 (wOp fMulA (wOp fIx (wVar 1) (wC (.int 1))) (wOp fIx (wVar 2) (wC (.int 1)))))
  (wSeq (wIfS (wTst (wOp fEq (wVar 0) (wC (.int 1))))
  (wAsg 4 (wOp fSub (wOp fMulA (wOp fIx (wVar 1) (wC (.int 0))) (wOp fIx (wVar 2) (wC (.int 1)))) (wOp fMulA (wOp fIx (wVar 2) (wC (.int 0))) (wOp fIx (wVar 1) (wC (.int 1))))))
  wNext)
  (wSeq (wIfS (wTst (wOp fEq (wVar 0) (wC (.int 2))))
  (wAsg 4 (wOp fMulA (wOp fIx (wVar 1) (wC (.int 0))) (wOp fIx (wVar 2) (wC (.int 0)))))
  wNext)
  (wSeq (wIfS (wTst (wOp fEq (wVar 0) (wC (.int 3))))
  (wSeq (wAsg 4 (wOp fMulA (wOp fIx (wVar 1) (wC (.int 0))) (wOp fIx (wVar 2) (wC (.int 1)))))
  (wAsg 5 (wOp fMulA (wOp fIx (wVar 1) (wC (.int 1))) (wOp fIx (wVar 2) (wC (.int 0))))))
  wNext)
  (wRet (wOp fEq (wOp fMulA (wOp fIx (wOp fIx (wVar 3) (wC (.int 1))) (wC (.int 0))) (wVar 5)) (wOp fMulA (wOp fIx (wOp fIx (wVar 3) (wC (.int 1))) (wC (.int 1))) (wVar 4)))))))))))
theorem d_l_reckoned {a_l_reckoned : Addr} (T : Tx K mg C fI fdI ad) {a_l_quotient : Addr} {fd_l_quotient : FuncData} {a_l_like : Addr} {fd_l_like : FuncData} (H_l_like : Cl P w K mg base 3 "_law_like" s_l_like ["_law_told", "_law_due"] 2 c_l_like1 a_l_like fd_l_like) (H_l_quotient : Cl P w K mg base 2 "_law_quotient" s_l_quotient ["_law_value_here"] 1 c_l_quotient a_l_quotient fd_l_quotient) : ∀ (cdv : Value) (A : Around) (outer : List Env) (s : Shared) (H : Hp) (E : XK), Room 3 (cxOf (L2N.CX P w) P w K mg base N_l_reckoned "_law_reckoned" (defScope s_l_reckoned) a_l_reckoned cdv A outer s H E).A → L2N.Takes (cxOf (L2N.CX P w) P w K mg base N_l_reckoned "_law_reckoned" (defScope s_l_reckoned) a_l_reckoned cdv A outer s H E) (fun cls d _ H => E cls d H) →
    PSsd (cxOf (L2N.CX P w) P w K mg base N_l_reckoned "_law_reckoned" (defScope s_l_reckoned) a_l_reckoned cdv A outer s H E) (fun cls d _ H => E cls d H) (defBody s_l_reckoned) w_l_reckoned := fun cdv A outer s H E hr tk =>
  (psd_cons (psd_if (ptd_cmp (op_eqD hr.units) opd_eq (pd_var 0) pd_int (nomark _))
  (psd_one (psd_ret (pd_call tk H_l_like.F (hr.mono (by decide)) (by rfl) H_l_like.m H_l_like.kp H_l_like.b (pad_cons (pd_var 3) (pad_cons (pd_tup (pad_cons pd_str (pad_cons (pd_cmp op_lt opd_lt (pd_op op_mulA opd_mulA (pd_ix ix_seq opd_ix (pd_var 1) pd_int (fun _ _ => rfl)) (pd_ix ix_seq opd_ix (pd_var 2) pd_int (fun _ _ => rfl))) (pd_op op_mulA opd_mulA (pd_ix ix_seq opd_ix (pd_var 2) pd_int (fun _ _ => rfl)) (pd_ix ix_seq opd_ix (pd_var 1) pd_int (fun _ _ => rfl))) (nomark _)) pad_nil))) pad_nil)))))
  psd_nil)
  (psd_cons (psd_if (PWd.pt (pwd_or (ptd_not (ptd_val (pd_isi kit_tup (by rfl) T.b_isinstance (pd_var 3) (pe_bltn (by rfl) T.b_tuple (by decide +kernel) rfl)))) (pwd_or (ptd_cmp (op_neD hr.units) opd_ne (pd_cb cad_len call_len (by rfl) T.b_len PySem.boot_len (pad_cons (pd_var 3) pad_nil)) pd_int (nomark _)) (pwd_or (ptd_cmp (op_neD hr.units) opd_ne (pd_ix ix_seq opd_ix (pd_var 3) pd_int (fun _ _ => rfl)) pd_str (nomark _)) (pwd_or1 (ptd_not (ptd_val (pd_call tk H_l_quotient.F (hr.mono (by decide)) (by rfl) H_l_quotient.m H_l_quotient.kp H_l_quotient.b (pad_cons (pd_ix ix_seq opd_ix (pd_var 3) pd_int (fun _ _ => rfl)) pad_nil)))))))))
  (psd_one (psd_ret pd_bl))
  psd_nil)
  (psd_cons (psd_set sc_l_reckoned.nd rfl (by first | exact Or.inl rfl | exact Or.inr rfl) (pd_op op_addA opd_add (pd_op op_mulA opd_mulA (pd_ix ix_seq opd_ix (pd_var 1) pd_int (fun _ _ => rfl)) (pd_ix ix_seq opd_ix (pd_var 2) pd_int (fun _ _ => rfl))) (pd_op op_mulA opd_mulA (pd_ix ix_seq opd_ix (pd_var 2) pd_int (fun _ _ => rfl)) (pd_ix ix_seq opd_ix (pd_var 1) pd_int (fun _ _ => rfl)))))
  (psd_cons (psd_set sc_l_reckoned.nd rfl (by first | exact Or.inl rfl | exact Or.inr rfl) (pd_op op_mulA opd_mulA (pd_ix ix_seq opd_ix (pd_var 1) pd_int (fun _ _ => rfl)) (pd_ix ix_seq opd_ix (pd_var 2) pd_int (fun _ _ => rfl))))
  (psd_cons (psd_if (ptd_cmp (op_eqD hr.units) opd_eq (pd_var 0) pd_int (nomark _))
  (psd_one (psd_set sc_l_reckoned.nd rfl (by first | exact Or.inl rfl | exact Or.inr rfl) (pd_op op_sub opd_sub (pd_op op_mulA opd_mulA (pd_ix ix_seq opd_ix (pd_var 1) pd_int (fun _ _ => rfl)) (pd_ix ix_seq opd_ix (pd_var 2) pd_int (fun _ _ => rfl))) (pd_op op_mulA opd_mulA (pd_ix ix_seq opd_ix (pd_var 2) pd_int (fun _ _ => rfl)) (pd_ix ix_seq opd_ix (pd_var 1) pd_int (fun _ _ => rfl))))))
  psd_nil)
  (psd_cons (psd_if (ptd_cmp (op_eqD hr.units) opd_eq (pd_var 0) pd_int (nomark _))
  (psd_one (psd_set sc_l_reckoned.nd rfl (by first | exact Or.inl rfl | exact Or.inr rfl) (pd_op op_mulA opd_mulA (pd_ix ix_seq opd_ix (pd_var 1) pd_int (fun _ _ => rfl)) (pd_ix ix_seq opd_ix (pd_var 2) pd_int (fun _ _ => rfl)))))
  psd_nil)
  (psd_cons (psd_if (ptd_cmp (op_eqD hr.units) opd_eq (pd_var 0) pd_int (nomark _))
  (psd_cons (psd_set sc_l_reckoned.nd rfl (by first | exact Or.inl rfl | exact Or.inr rfl) (pd_op op_mulA opd_mulA (pd_ix ix_seq opd_ix (pd_var 1) pd_int (fun _ _ => rfl)) (pd_ix ix_seq opd_ix (pd_var 2) pd_int (fun _ _ => rfl))))
  (psd_one (psd_set sc_l_reckoned.nd rfl (by first | exact Or.inl rfl | exact Or.inr rfl) (pd_op op_mulA opd_mulA (pd_ix ix_seq opd_ix (pd_var 1) pd_int (fun _ _ => rfl)) (pd_ix ix_seq opd_ix (pd_var 2) pd_int (fun _ _ => rfl))))))
  psd_nil)
  (psd_one (psd_ret (pd_cmp (op_eqD hr.units) opd_eq (pd_op op_mulA opd_mulA (pd_ix ix_seq opd_ix (pd_ix ix_seq opd_ix (pd_var 3) pd_int (fun _ _ => rfl)) pd_int (fun _ _ => rfl)) (pd_var 5)) (pd_op op_mulA opd_mulA (pd_ix ix_seq opd_ix (pd_ix ix_seq opd_ix (pd_var 3) pd_int (fun _ _ => rfl)) pd_int (fun _ _ => rfl)) (pd_var 4)) (nomark _)))))))))))
abbrev s_l_pair : Stmt := topS 67
abbrev N_l_pair : List Str := ["_law_deed", "_law_left", "_law_right", "_law_named", "_law_told"]
theorem sc_l_pair : FnScope N_l_pair ["_law_deed", "_law_left", "_law_right", "_law_named"] (defScope s_l_pair) := ⟨rfl, rfl, rfl, by decide +kernel, rfl, by decide +kernel, by decide +kernel⟩
def w_l_pair (C : Addr) : WS := (wSeq (wAsg 4 (wCall 4 (c_l_two C) (aCons (wVar 0) (aCons (wVar 1) (aCons (wVar 2) (aCons (wVar 3) aNil))))))
  (wSeq (wIfS (wTst (wOp fGt (wVar 0) (wC (.int 4))))
  (wSeq (wIfS (wOr (wNot (wTst (wCall 1 c_l_whole (aCons (wVar 1) aNil)))) (wTst (wOp fLt (wVar 1) (wC (.int 0)))))
  (wRet (wCall 2 c_l_like1 (aCons (wVar 4) (aCons (wTup (aCons (wC (.str "refused")) (aCons (wC (.str "many")) (aCons (wUn fNeg (wC (.int 1))) aNil)))) aNil))))
  wNext)
  (wSeq (wIfS (wTst (wOp fEq (wVar 0) (wC (.int 7))))
  (wRet (wCall 2 c_l_like1 (aCons (wVar 4) (aCons (wTup (aCons (wC (.str "told")) (aCons (vAnd (wCall 1 c_l_whole (aCons (wVar 2) aNil)) (vAnd (wOp fLe (wUn fNeg (wC (.int 4))) (wVar 2)) (wOp fLt (wVar 2) (wVar 1)))) aNil))) aNil))))
  wNext)
  (wRet (wCall 2 c_l_like1 (aCons (wVar 4) (aCons (wTup (aCons (wC (.str "told")) (aCons (wCall 3 c_l_all_of (aCons (wVar 1) (aCons (wVar 2) (aCons (wOp fSub (wC (.int 6)) (wVar 0)) aNil)))) aNil))) aNil))))))
  wNext)
  (wSeq (wIfS (wNot (wTst (wCall 1 c_l_quotient (aCons (wVar 1) aNil))))
  (wRet (wCall 2 c_l_like1 (aCons (wVar 4) (aCons (wTup (aCons (wC (.str "refused")) (aCons (wC (.str "one")) (aCons (wUn fNeg (wC (.int 1))) aNil)))) aNil))))
  wNext)
  (wSeq (wIfS (wOr (wNot (wTst (wCall 1 c_l_quotient (aCons (wVar 2) aNil)))) (wAnd (wTst (wOp fEq (wVar 0) (wC (.int 3)))) (wTst (wOp fEq (wOp fIx (wVar 2) (wC (.int 0))) (wC (.int 0))))))
  (wRet (wCall 2 c_l_like1 (aCons (wVar 4) (aCons (wTup (aCons (wC (.str "refused")) (aCons (wC (.str "other")) (aCons (wUn fNeg (wC (.int 1))) aNil)))) aNil))))
  wNext)
  (wRet (wCall 4 c_l_reckoned (aCons (wVar 0) (aCons (wVar 1) (aCons (wVar 2) (aCons (wVar 4) aNil))))))))))
theorem d_l_pair {a_l_pair : Addr} (T : Tx K mg C fI fdI ad) {a_l_all_of : Addr} {fd_l_all_of : FuncData} {a_l_whole : Addr} {fd_l_whole : FuncData} {a_l_quotient : Addr} {fd_l_quotient : FuncData} {a_l_like : Addr} {fd_l_like : FuncData} {a_l_reckoned : Addr} {fd_l_reckoned : FuncData} {a_l_two : Addr} {fd_l_two : FuncData} (H_l_two : Cl P w K mg base 6 "_law_two" s_l_two ["_law_deed", "_law_left", "_law_right", "_law_named"] 4 (c_l_two C) a_l_two fd_l_two) (H_l_reckoned : Cl P w K mg base 4 "_law_reckoned" s_l_reckoned ["_law_deed", "_law_left", "_law_right", "_law_told"] 4 c_l_reckoned a_l_reckoned fd_l_reckoned) (H_l_like : Cl P w K mg base 3 "_law_like" s_l_like ["_law_told", "_law_due"] 2 c_l_like1 a_l_like fd_l_like) (H_l_quotient : Cl P w K mg base 2 "_law_quotient" s_l_quotient ["_law_value_here"] 1 c_l_quotient a_l_quotient fd_l_quotient) (H_l_whole : Cl P w K mg base 1 "_law_whole" s_l_whole ["_law_value_here"] 1 c_l_whole a_l_whole fd_l_whole) (H_l_all_of : Cl P w K mg base 3 "_law_all_of" s_l_all_of ["_law_count", "_law_value_here", "_law_least"] 3 c_l_all_of a_l_all_of fd_l_all_of) : ∀ (cdv : Value) (A : Around) (outer : List Env) (s : Shared) (H : Hp) (E : XK), Room 6 (cxOf (L2N.CX P w) P w K mg base N_l_pair "_law_pair" (defScope s_l_pair) a_l_pair cdv A outer s H E).A → L2N.Takes (cxOf (L2N.CX P w) P w K mg base N_l_pair "_law_pair" (defScope s_l_pair) a_l_pair cdv A outer s H E) (fun cls d _ H => E cls d H) →
    PSsd (cxOf (L2N.CX P w) P w K mg base N_l_pair "_law_pair" (defScope s_l_pair) a_l_pair cdv A outer s H E) (fun cls d _ H => E cls d H) (defBody s_l_pair) (w_l_pair C) := fun cdv A outer s H E hr tk =>
  (psd_cons (psd_set sc_l_pair.nd rfl (by first | exact Or.inl rfl | exact Or.inr rfl) (pd_call tk H_l_two.F (hr.mono (by decide)) (by rfl) H_l_two.m H_l_two.kp H_l_two.b (pad_cons (pd_var 0) (pad_cons (pd_var 1) (pad_cons (pd_var 2) (pad_cons (pd_var 3) pad_nil))))))
  (psd_cons (psd_if (ptd_cmp op_gt opd_gt (pd_var 0) pd_int (nomark _))
  (psd_cons (psd_if (PWd.pt (pwd_or (ptd_not (ptd_val (pd_call tk H_l_whole.F (hr.mono (by decide)) (by rfl) H_l_whole.m H_l_whole.kp H_l_whole.b (pad_cons (pd_var 1) pad_nil)))) (pwd_or1 (ptd_cmp op_lt opd_lt (pd_var 1) pd_int (nomark _)))))
  (psd_one (psd_ret (pd_call tk H_l_like.F (hr.mono (by decide)) (by rfl) H_l_like.m H_l_like.kp H_l_like.b (pad_cons (pd_var 4) (pad_cons (pd_tup (pad_cons pd_str (pad_cons pd_str (pad_cons (pd_un un_neg und_neg pd_int) pad_nil)))) pad_nil)))))
  psd_nil)
  (psd_cons (psd_if (ptd_cmp (op_eqD hr.units) opd_eq (pd_var 0) pd_int (nomark _))
  (psd_one (psd_ret (pd_call tk H_l_like.F (hr.mono (by decide)) (by rfl) H_l_like.m H_l_like.kp H_l_like.b (pad_cons (pd_var 4) (pad_cons (pd_tup (pad_cons pd_str (pad_cons (pd_and (pd_call tk H_l_whole.F (hr.mono (by decide)) (by rfl) H_l_whole.m H_l_whole.kp H_l_whole.b (pad_cons (pd_var 2) pad_nil)) (pd_and (pd_cmp op_le opd_le (pd_un un_neg und_neg pd_int) (pd_var 2) (nomark _)) (pd_one (pd_cmp op_lt opd_lt (pd_var 2) (pd_var 1) (nomark _))))) pad_nil))) pad_nil)))))
  psd_nil)
  (psd_one (psd_ret (pd_call tk H_l_like.F (hr.mono (by decide)) (by rfl) H_l_like.m H_l_like.kp H_l_like.b (pad_cons (pd_var 4) (pad_cons (pd_tup (pad_cons pd_str (pad_cons (pd_call tk H_l_all_of.F (hr.mono (by decide)) (by rfl) H_l_all_of.m H_l_all_of.kp H_l_all_of.b (pad_cons (pd_var 1) (pad_cons (pd_var 2) (pad_cons (pd_op op_sub opd_sub pd_int (pd_var 0)) pad_nil)))) pad_nil))) pad_nil)))))))
  psd_nil)
  (psd_cons (psd_if (ptd_not (ptd_val (pd_call tk H_l_quotient.F (hr.mono (by decide)) (by rfl) H_l_quotient.m H_l_quotient.kp H_l_quotient.b (pad_cons (pd_var 1) pad_nil))))
  (psd_one (psd_ret (pd_call tk H_l_like.F (hr.mono (by decide)) (by rfl) H_l_like.m H_l_like.kp H_l_like.b (pad_cons (pd_var 4) (pad_cons (pd_tup (pad_cons pd_str (pad_cons pd_str (pad_cons (pd_un un_neg und_neg pd_int) pad_nil)))) pad_nil)))))
  psd_nil)
  (psd_cons (psd_if (PWd.pt (pwd_or (ptd_not (ptd_val (pd_call tk H_l_quotient.F (hr.mono (by decide)) (by rfl) H_l_quotient.m H_l_quotient.kp H_l_quotient.b (pad_cons (pd_var 2) pad_nil)))) (pwd_or1 (PWd.pt (pwd_and (ptd_cmp (op_eqD hr.units) opd_eq (pd_var 0) pd_int (nomark _)) (pwd_and1 (ptd_cmp (op_eqD hr.units) opd_eq (pd_ix ix_seq opd_ix (pd_var 2) pd_int (fun _ _ => rfl)) pd_int (nomark _))))))))
  (psd_one (psd_ret (pd_call tk H_l_like.F (hr.mono (by decide)) (by rfl) H_l_like.m H_l_like.kp H_l_like.b (pad_cons (pd_var 4) (pad_cons (pd_tup (pad_cons pd_str (pad_cons pd_str (pad_cons (pd_un un_neg und_neg pd_int) pad_nil)))) pad_nil)))))
  psd_nil)
  (psd_one (psd_ret (pd_call tk H_l_reckoned.F (hr.mono (by decide)) (by rfl) H_l_reckoned.m H_l_reckoned.kp H_l_reckoned.b (pad_cons (pd_var 0) (pad_cons (pd_var 1) (pad_cons (pd_var 2) (pad_cons (pd_var 4) pad_nil)))))))))))
abbrev s_l_alone : Stmt := topS 68
abbrev N_l_alone : List Str := ["_law_value_here", "_law_named", "_law_is_side", "_law_dues", "_law_deed"]
theorem sc_l_alone : FnScope N_l_alone ["_law_value_here", "_law_named"] (defScope s_l_alone) := ⟨rfl, rfl, rfl, by decide +kernel, rfl, by decide +kernel, by decide +kernel⟩
def w_l_alone (C : Addr) : WS := (wSeq (wAsg 2 (vAnd (wCall 1 c_l_whole (aCons (wVar 0) aNil)) (vAnd (wOp fLe (wUn fNeg (wC (.int 4))) (wVar 0)) (wOp fLt (wVar 0) (wC (.int 0))))))
  (wSeq (wAsgC 3 (wLst (aCons (wTup (aCons (wC (.str "told")) (aCons (wCall 1 c_l_whole (aCons (wVar 0) aNil)) aNil))) (aCons (wTup (aCons (wC (.str "told")) (aCons (wCall 1 c_l_quotient (aCons (wVar 0) aNil)) aNil))) aNil))))
  (wSeq (wApp 3 (wTup (aCons (wC (.str "told")) (aCons (vAnd (wCall 1 c_l_quotient (aCons (wVar 0) aNil)) (wOp fGt (wOp fIx (wVar 0) (wC (.int 0))) (wC (.int 0)))) aNil))))
  (wSeq (wIfS (wTst (wVar 2))
  (wSeq (wApp 3 (wTup (aCons (wC (.str "told")) (aCons (wOp fIx (wLst (aCons (wUn fNeg (wC (.int 3))) (aCons (wUn fNeg (wC (.int 2))) (aCons (wUn fNeg (wC (.int 1))) (aCons (wUn fNeg (wC (.int 4))) aNil))))) (wOp fAdd (wVar 0) (wC (.int 4)))) aNil))))
  (wSeq (wApp 3 (wTup (aCons (wC (.str "told")) (aCons (wOp fIx (wLst (aCons (wUn fNeg (wC (.int 2))) (aCons (wUn fNeg (wC (.int 1))) (aCons (wUn fNeg (wC (.int 4))) (aCons (wUn fNeg (wC (.int 3))) aNil))))) (wOp fAdd (wVar 0) (wC (.int 4)))) aNil))))
  (wApp 3 (wTup (aCons (wC (.str "told")) (aCons (wOp fIx (wC (.str "WNES")) (wOp fAdd (wVar 0) (wC (.int 4)))) aNil))))))
  (wSeq (wApp 3 (wTup (aCons (wC (.str "refused")) (aCons (wC (.str "side")) (aCons (wUn fNeg (wC (.int 1))) aNil)))))
  (wSeq (wApp 3 (wTup (aCons (wC (.str "refused")) (aCons (wC (.str "side")) (aCons (wUn fNeg (wC (.int 1))) aNil)))))
  (wIfS (wAnd (wTst (wCall 1 c_l_whole (aCons (wVar 0) aNil))) (wTst (wOp fGe (wVar 0) (wC (.int 0)))))
  (wApp 3 (wTup (aCons (wC (.str "told")) (aCons (wCB fStrI (aCons (wVar 0) aNil)) aNil))))
  (wApp 3 (wTup (aCons (wC (.str "refused")) (aCons (wC (.str "place")) (aCons (wUn fNeg (wC (.int 1))) aNil)))))))))
  (wSeq (wFor (wRng1 (wC (.int 6))) [4] bName
  (wIfS (wNot (wTst (wCall 2 c_l_like1 (aCons (wCall 3 (c_l_single C) (aCons (wVar 4) (aCons (wVar 0) (aCons (wVar 1) aNil)))) (aCons (wIxC 3 (wVar 4)) aNil)))))
  (wRet (wC (.bool false)))
  wNext))
  (wRet (wC (.bool true))))))))
theorem d_l_alone {a_l_alone : Addr} (T : Tx K mg C fI fdI ad) {a_l_single : Addr} {fd_l_single : FuncData} {a_l_like : Addr} {fd_l_like : FuncData} {a_l_quotient : Addr} {fd_l_quotient : FuncData} {a_l_whole : Addr} {fd_l_whole : FuncData} (H_l_whole : Cl P w K mg base 1 "_law_whole" s_l_whole ["_law_value_here"] 1 c_l_whole a_l_whole fd_l_whole) (H_l_quotient : Cl P w K mg base 2 "_law_quotient" s_l_quotient ["_law_value_here"] 1 c_l_quotient a_l_quotient fd_l_quotient) (H_l_like : Cl P w K mg base 3 "_law_like" s_l_like ["_law_told", "_law_due"] 2 c_l_like1 a_l_like fd_l_like) (H_l_single : Cl P w K mg base 5 "_law_single" s_l_single ["_law_deed", "_law_value_here", "_law_named"] 3 (c_l_single C) a_l_single fd_l_single) : ∀ (cdv : Value) (A : Around) (outer : List Env) (s : Shared) (H : Hp) (E : XK), Room 5 (cxOf (L2N.CX P w) P w K mg base N_l_alone "_law_alone" (defScope s_l_alone) a_l_alone cdv A outer s H E).A → L2N.Takes (cxOf (L2N.CX P w) P w K mg base N_l_alone "_law_alone" (defScope s_l_alone) a_l_alone cdv A outer s H E) (fun cls d _ H => E cls d H) →
    PSsd (cxOf (L2N.CX P w) P w K mg base N_l_alone "_law_alone" (defScope s_l_alone) a_l_alone cdv A outer s H E) (fun cls d _ H => E cls d H) (defBody s_l_alone) (w_l_alone C) := fun cdv A outer s H E hr tk =>
  (psd_cons (psd_set sc_l_alone.nd rfl (by first | exact Or.inl rfl | exact Or.inr rfl) (pd_and (pd_call tk H_l_whole.F (hr.mono (by decide)) (by rfl) H_l_whole.m H_l_whole.kp H_l_whole.b (pad_cons (pd_var 0) pad_nil)) (pd_and (pd_cmp op_le opd_le (pd_un un_neg und_neg pd_int) (pd_var 0) (nomark _)) (pd_one (pd_cmp op_lt opd_lt (pd_var 0) pd_int (nomark _))))))
  (psd_cons (psd_setC sc_l_alone.nd rfl (by first | exact Or.inl rfl | exact Or.inr rfl) (pf_lst (pad_cons (pd_tup (pad_cons pd_str (pad_cons (pd_call tk H_l_whole.F (hr.mono (by decide)) (by rfl) H_l_whole.m H_l_whole.kp H_l_whole.b (pad_cons (pd_var 0) pad_nil)) pad_nil))) (pad_cons (pd_tup (pad_cons pd_str (pad_cons (pd_call tk H_l_quotient.F (hr.mono (by decide)) (by rfl) H_l_quotient.m H_l_quotient.kp H_l_quotient.b (pad_cons (pd_var 0) pad_nil)) pad_nil))) pad_nil))))
  (psd_cons (psd_app 3 (ps_expr (pe_bm PySem.F.plainAttrs_list PySem.F.slot_list_append PySem.F.type_list_append mt_append (pv 3) (pa_cons (pd_tup (pad_cons pd_str (pad_cons (pd_and (pd_call tk H_l_quotient.F (hr.mono (by decide)) (by rfl) H_l_quotient.m H_l_quotient.kp H_l_quotient.b (pad_cons (pd_var 0) pad_nil)) (pd_one (pd_cmp op_gt opd_gt (pd_ix ix_seq opd_ix (pd_var 0) pd_int (fun _ _ => rfl)) pd_int (nomark _)))) pad_nil))) pa_nil))))
  (psd_cons (psd_if (ptd_val (pd_var 2))
  (psd_cons (psd_app 3 (ps_expr (pe_bm PySem.F.plainAttrs_list PySem.F.slot_list_append PySem.F.type_list_append mt_append (pv 3) (pa_cons (pd_tup (pad_cons pd_str (pad_cons (pd_ix ix_seq opd_ix (PF.pd (pf_lst (pad_cons (pd_un un_neg und_neg pd_int) (pad_cons (pd_un un_neg und_neg pd_int) (pad_cons (pd_un un_neg und_neg pd_int) (pad_cons (pd_un un_neg und_neg pd_int) pad_nil)))))) (pd_op op_addA opd_add (pd_var 0) pd_int) (fun _ _ => rfl)) pad_nil))) pa_nil))))
  (psd_cons (psd_app 3 (ps_expr (pe_bm PySem.F.plainAttrs_list PySem.F.slot_list_append PySem.F.type_list_append mt_append (pv 3) (pa_cons (pd_tup (pad_cons pd_str (pad_cons (pd_ix ix_seq opd_ix (PF.pd (pf_lst (pad_cons (pd_un un_neg und_neg pd_int) (pad_cons (pd_un un_neg und_neg pd_int) (pad_cons (pd_un un_neg und_neg pd_int) (pad_cons (pd_un un_neg und_neg pd_int) pad_nil)))))) (pd_op op_addA opd_add (pd_var 0) pd_int) (fun _ _ => rfl)) pad_nil))) pa_nil))))
  (psd_one (psd_app 3 (ps_expr (pe_bm PySem.F.plainAttrs_list PySem.F.slot_list_append PySem.F.type_list_append mt_append (pv 3) (pa_cons (pd_tup (pad_cons pd_str (pad_cons (pd_ix ix_seq opd_ix pd_str (pd_op op_addA opd_add (pd_var 0) pd_int) (fun _ _ => rfl)) pad_nil))) pa_nil)))))))
  (psd_cons (psd_app 3 (ps_expr (pe_bm PySem.F.plainAttrs_list PySem.F.slot_list_append PySem.F.type_list_append mt_append (pv 3) (pa_cons (pd_tup (pad_cons pd_str (pad_cons pd_str (pad_cons (pd_un un_neg und_neg pd_int) pad_nil)))) pa_nil))))
  (psd_cons (psd_app 3 (ps_expr (pe_bm PySem.F.plainAttrs_list PySem.F.slot_list_append PySem.F.type_list_append mt_append (pv 3) (pa_cons (pd_tup (pad_cons pd_str (pad_cons pd_str (pad_cons (pd_un un_neg und_neg pd_int) pad_nil)))) pa_nil))))
  (psd_one (psd_if (PWd.pt (pwd_and (ptd_val (pd_call tk H_l_whole.F (hr.mono (by decide)) (by rfl) H_l_whole.m H_l_whole.kp H_l_whole.b (pad_cons (pd_var 0) pad_nil))) (pwd_and1 (ptd_cmp op_ge opd_ge (pd_var 0) pd_int (nomark _)))))
  (psd_one (psd_app 3 (ps_expr (pe_bm PySem.F.plainAttrs_list PySem.F.slot_list_append PySem.F.type_list_append mt_append (pv 3) (pa_cons (pd_tup (pad_cons pd_str (pad_cons (pd_cty cad_strI call_str_int (by rfl) T.b_str (by decide +kernel) (pad_cons (pd_var 0) pad_nil)) pad_nil))) pa_nil)))))
  (psd_one (psd_app 3 (ps_expr (pe_bm PySem.F.plainAttrs_list PySem.F.slot_list_append PySem.F.type_list_append mt_append (pv 3) (pa_cons (pd_tup (pad_cons pd_str (pad_cons pd_str (pad_cons (pd_un un_neg und_neg pd_int) pad_nil)))) pa_nil))))))))))
  (psd_cons (psd_for .leaving rfl (pid_rng1 (by rfl) T.b_range pd_int) (pg_name (i := 4) sc_l_alone.nd rfl (by first | exact Or.inl rfl | exact Or.inr rfl)) bnd_name
  (psd_one (psd_if (ptd_not (ptd_val (pd_call tk H_l_like.F (hr.mono (by decide)) (by rfl) H_l_like.m H_l_like.kp H_l_like.b (pad_cons (pd_call tk H_l_single.F (hr.mono (by decide)) (by rfl) H_l_single.m H_l_single.kp H_l_single.b (pad_cons (pd_var 4) (pad_cons (pd_var 0) (pad_cons (pd_var 1) pad_nil)))) (pad_cons (pd_ixC 3 (pd_var 4) (fun _ _ => rfl)) pad_nil)))))
  (psd_one (psd_ret pd_bl))
  psd_nil)))
  (psd_one (psd_ret pd_bl)))))))
/-! _law_papers: by hand -/
abbrev s_l_papers : Stmt := topS 69
abbrev N_l_papers : List Str := ["_law_first", "_law_second", "_law_left", "_law_right", "_law_made", "_law_usable", "_law_sketch", "_law_e"]
theorem sc_l_papers : FnScope N_l_papers ["_law_first", "_law_second"] (defScope s_l_papers) := ⟨rfl, rfl, rfl, by decide +kernel, rfl, by decide +kernel, by decide +kernel⟩
/-! _law_errors: by hand -/
abbrev s_l_errors : Stmt := topS 70
abbrev N_l_errors : List Str := ["_law_first", "_law_second", "_law_left", "_law_right", "_law_unfit", "_law_deed", "_law_undo", "_law_text", "_law_e"]
theorem sc_l_errors : FnScope N_l_errors ["_law_first", "_law_second"] (defScope s_l_errors) := ⟨rfl, rfl, rfl, by decide +kernel, rfl, by decide +kernel, by decide +kernel⟩
abbrev s_l_long : Stmt := topS 71
abbrev N_l_long : List Str := ["_law_pool_here", "_law_head", "_law_left", "_law_right"]
theorem sc_l_long : FnScope N_l_long ["_law_pool_here"] (defScope s_l_long) := ⟨rfl, rfl, rfl, by decide +kernel, rfl, by decide +kernel, by decide +kernel⟩
def w_l_long  : WS := (wSeq (wAsg 1 (wOp fMulA (wOp fMulA (wOp fMulA (wOp fMulA (wOp fPow (wC (.int 10)) (wC (.int 60))) (wOp fPow (wC (.int 10)) (wC (.int 60)))) (wOp fPow (wC (.int 10)) (wC (.int 60)))) (wOp fPow (wC (.int 10)) (wC (.int 60)))) (wOp fPow (wC (.int 10)) (wC (.int 59)))))
  (wSeq (wAsg 2 (wCall 2 c_l_low (aCons (wOp fAdd (wVar 1) (wCall 2 c_l_take (aPool 0 (aCons (wC (.int 100000)) aNil)))) (aCons (wOp fSub (wOp fSub (wOp fMulA (wC (.int 9)) (wVar 1)) (wC (.int 1))) (wCall 2 c_l_take (aPool 0 (aCons (wC (.int 100000)) aNil)))) aNil))))
  (wSeq (wAsg 3 (wCall 2 c_l_low (aCons (wOp fSub (wCall 2 c_l_take (aPool 0 (aCons (wC (.int 100000)) aNil))) (wVar 1)) (aCons (wOp fAdd (wOp fAdd (wOp fMulA (wC (.int 7)) (wVar 1)) (wC (.int 2))) (wCall 2 c_l_take (aPool 0 (aCons (wC (.int 100000)) aNil)))) aNil))))
  (wRet (wLst (aCons (wVar 2) (aCons (wVar 3) aNil)))))))
theorem d_l_long {a_l_long : Addr} (T : Tx K mg C fI fdI ad) {a_l_take : Addr} {fd_l_take : FuncData} {a_l_low : Addr} {fd_l_low : FuncData} (H_l_low : Cl P w K mg base 2 "_law_low" s_l_low ["_law_top", "_law_bottom"] 2 c_l_low a_l_low fd_l_low) (H_l_take : Cl P w K mg base 2 "_law_take" s_l_take ["_law_pool_here", "_law_size"] 2 c_l_take a_l_take fd_l_take) : ∀ (cdv : Value) (A : Around) (outer : List Env) (s : Shared) (H : Hp) (E : XK), Room 2 (cxOf (L2N.CX P w) P w K mg base N_l_long "_law_long" (defScope s_l_long) a_l_long cdv A outer s H E).A → L2N.Takes (cxOf (L2N.CX P w) P w K mg base N_l_long "_law_long" (defScope s_l_long) a_l_long cdv A outer s H E) (fun cls d _ H => E cls d H) →
    PSsd (cxOf (L2N.CX P w) P w K mg base N_l_long "_law_long" (defScope s_l_long) a_l_long cdv A outer s H E) (fun cls d _ H => E cls d H) (defBody s_l_long) w_l_long := fun cdv A outer s H E hr tk =>
  (psd_cons (psd_set sc_l_long.nd rfl (by first | exact Or.inl rfl | exact Or.inr rfl) (pd_op op_mulA opd_mulA (pd_op op_mulA opd_mulA (pd_op op_mulA opd_mulA (pd_op op_mulA opd_mulA (pd_op op_pow opd_pow pd_int pd_int) (pd_op op_pow opd_pow pd_int pd_int)) (pd_op op_pow opd_pow pd_int pd_int)) (pd_op op_pow opd_pow pd_int pd_int)) (pd_op op_pow opd_pow pd_int pd_int)))
  (psd_cons (psd_set sc_l_long.nd rfl (by first | exact Or.inl rfl | exact Or.inr rfl) (pd_call tk H_l_low.F (hr.mono (by decide)) (by rfl) H_l_low.m H_l_low.kp H_l_low.b (pad_cons (pd_op op_addA opd_add (pd_var 1) (pd_call tk H_l_take.F (hr.mono (by decide)) (by rfl) H_l_take.m H_l_take.kp H_l_take.b (pad_pool 0 (pad_cons pd_int pad_nil)))) (pad_cons (pd_op op_sub opd_sub (pd_op op_sub opd_sub (pd_op op_mulA opd_mulA pd_int (pd_var 1)) pd_int) (pd_call tk H_l_take.F (hr.mono (by decide)) (by rfl) H_l_take.m H_l_take.kp H_l_take.b (pad_pool 0 (pad_cons pd_int pad_nil)))) pad_nil))))
  (psd_cons (psd_set sc_l_long.nd rfl (by first | exact Or.inl rfl | exact Or.inr rfl) (pd_call tk H_l_low.F (hr.mono (by decide)) (by rfl) H_l_low.m H_l_low.kp H_l_low.b (pad_cons (pd_op op_sub opd_sub (pd_call tk H_l_take.F (hr.mono (by decide)) (by rfl) H_l_take.m H_l_take.kp H_l_take.b (pad_pool 0 (pad_cons pd_int pad_nil))) (pd_var 1)) (pad_cons (pd_op op_addA opd_add (pd_op op_addA opd_add (pd_op op_mulA opd_mulA pd_int (pd_var 1)) pd_int) (pd_call tk H_l_take.F (hr.mono (by decide)) (by rfl) H_l_take.m H_l_take.kp H_l_take.b (pad_pool 0 (pad_cons pd_int pad_nil)))) pad_nil))))
  (psd_one (psd_ret (PF.pd (pf_lst (pad_cons (pd_var 2) (pad_cons (pd_var 3) pad_nil)))))))))
abbrev s_l_row : Stmt := topS 72
abbrev N_l_row : List Str := ["_law_pool_here", "_law_length", "_law_held", "_law_spot", "_law_k", "_law_pick"]
theorem sc_l_row : FnScope N_l_row ["_law_pool_here"] (defScope s_l_row) := ⟨rfl, rfl, rfl, by decide +kernel, rfl, by decide +kernel, by decide +kernel⟩
def w_l_row  : WS := (wSeq (wAsg 1 (wCall 2 c_l_take (aPool 0 (aCons (wC (.int 6)) aNil))))
  (wSeq (wIfS (wTst (wOp fEq (wCall 2 c_l_take (aPool 0 (aCons (wC (.int 8)) aNil))) (wC (.int 7))))
  (wSeq (wAsg 2 (wOp fMulA (wLst (aCons (wTup (aCons (wOp fAdd (wC (.int 1)) (wCall 2 c_l_take (aPool 0 (aCons (wC (.int 9)) aNil)))) (aCons (wC (.int 1)) aNil))) aNil)) (wC (.int 40))))
  (wSeq (wAsg 3 (wCall 2 c_l_take (aPool 0 (aCons (wC (.int 40)) aNil))))
  (wRet (wOp fAdd (wOp fAdd (wSl (wVar 2) oNone (oSome (wVar 3))) (wLst (aCons (wCall 1 c_l_value (aPool 0 aNil)) aNil))) (wSl (wVar 2) (oSome (wOp fAdd (wVar 3) (wC (.int 1)))) oNone)))))
  wNext)
  (wSeq (wAsgC 2 (wLst aNil))
  (wSeq (wFor (wRng1 (wVar 1)) [4] bName
  (wSeq (wAsg 5 (wCall 2 c_l_take (aPool 0 (aCons (wC (.int 8)) aNil))))
  (wIfS (wTst (wOp fEq (wVar 5) (wC (.int 7))))
  (wApp 2 (wCall 1 c_l_value (aPool 0 aNil)))
  (wIfS (wTst (wOp fEq (wVar 5) (wC (.int 6))))
  (wApp 2 (wTup (aCons (wC (.int 0)) (aCons (wC (.int 1)) aNil))))
  (wApp 2 (wCall 2 c_l_low (aCons (wOp fAdd (wC (.int 1)) (wCall 2 c_l_take (aPool 0 (aCons (wC (.int 12)) aNil)))) (aCons (wOp fAdd (wC (.int 1)) (wCall 2 c_l_take (aPool 0 (aCons (wC (.int 7)) aNil)))) aNil))))))))
  (wFz 2 (wRet (wVar 2)))))))
theorem d_l_row {a_l_row : Addr} (T : Tx K mg C fI fdI ad) {a_l_low : Addr} {fd_l_low : FuncData} {a_l_value : Addr} {fd_l_value : FuncData} {a_l_take : Addr} {fd_l_take : FuncData} (H_l_take : Cl P w K mg base 2 "_law_take" s_l_take ["_law_pool_here", "_law_size"] 2 c_l_take a_l_take fd_l_take) (H_l_value : Cl P w K mg base 4 "_law_value" s_l_value ["_law_pool_here"] 1 c_l_value a_l_value fd_l_value) (H_l_low : Cl P w K mg base 2 "_law_low" s_l_low ["_law_top", "_law_bottom"] 2 c_l_low a_l_low fd_l_low) : ∀ (cdv : Value) (A : Around) (outer : List Env) (s : Shared) (H : Hp) (E : XK), Room 4 (cxOf (L2N.CX P w) P w K mg base N_l_row "_law_row" (defScope s_l_row) a_l_row cdv A outer s H E).A → L2N.Takes (cxOf (L2N.CX P w) P w K mg base N_l_row "_law_row" (defScope s_l_row) a_l_row cdv A outer s H E) (fun cls d _ H => E cls d H) →
    PSsd (cxOf (L2N.CX P w) P w K mg base N_l_row "_law_row" (defScope s_l_row) a_l_row cdv A outer s H E) (fun cls d _ H => E cls d H) (defBody s_l_row) w_l_row := fun cdv A outer s H E hr tk =>
  (psd_cons (psd_set sc_l_row.nd rfl (by first | exact Or.inl rfl | exact Or.inr rfl) (pd_call tk H_l_take.F (hr.mono (by decide)) (by rfl) H_l_take.m H_l_take.kp H_l_take.b (pad_pool 0 (pad_cons pd_int pad_nil))))
  (psd_cons (psd_if (ptd_cmp (op_eqD hr.units) opd_eq (pd_call tk H_l_take.F (hr.mono (by decide)) (by rfl) H_l_take.m H_l_take.kp H_l_take.b (pad_pool 0 (pad_cons pd_int pad_nil))) pd_int (nomark _))
  (psd_cons (psd_set sc_l_row.nd rfl (by first | exact Or.inl rfl | exact Or.inr rfl) (pd_op op_mulA opd_mulA (PF.pd (pf_lst (pad_cons (pd_tup (pad_cons (pd_op op_addA opd_add pd_int (pd_call tk H_l_take.F (hr.mono (by decide)) (by rfl) H_l_take.m H_l_take.kp H_l_take.b (pad_pool 0 (pad_cons pd_int pad_nil)))) (pad_cons pd_int pad_nil))) pad_nil))) pd_int))
  (psd_cons (psd_set sc_l_row.nd rfl (by first | exact Or.inl rfl | exact Or.inr rfl) (pd_call tk H_l_take.F (hr.mono (by decide)) (by rfl) H_l_take.m H_l_take.kp H_l_take.b (pad_pool 0 (pad_cons pd_int pad_nil))))
  (psd_one (psd_ret (pd_op op_addA opd_add (pd_op op_addA opd_add (pd_slice (pd_var 2) pod_none (pod_some (pd_var 3))) (PF.pd (pf_lst (pad_cons (pd_call tk H_l_value.F (hr.mono (by decide)) (by rfl) H_l_value.m H_l_value.kp H_l_value.b (pad_pool 0 pad_nil)) pad_nil)))) (pd_slice (pd_var 2) (pod_some (pd_op op_addA opd_add (pd_var 3) pd_int)) pod_none))))))
  psd_nil)
  (psd_cons (psd_setC sc_l_row.nd rfl (by first | exact Or.inl rfl | exact Or.inr rfl) (pf_lst pad_nil))
  (psd_cons (psd_for .leaving rfl (pid_rng1 (by rfl) T.b_range (pd_var 1)) (pg_name (i := 4) sc_l_row.nd rfl (by first | exact Or.inl rfl | exact Or.inr rfl)) bnd_name
  (psd_cons (psd_set sc_l_row.nd rfl (by first | exact Or.inl rfl | exact Or.inr rfl) (pd_call tk H_l_take.F (hr.mono (by decide)) (by rfl) H_l_take.m H_l_take.kp H_l_take.b (pad_pool 0 (pad_cons pd_int pad_nil))))
  (psd_one (psd_if (ptd_cmp (op_eqD hr.units) opd_eq (pd_var 5) pd_int (nomark _))
  (psd_one (psd_app 2 (ps_expr (pe_bm PySem.F.plainAttrs_list PySem.F.slot_list_append PySem.F.type_list_append mt_append (pv 2) (pa_cons (pd_call tk H_l_value.F (hr.mono (by decide)) (by rfl) H_l_value.m H_l_value.kp H_l_value.b (pad_pool 0 pad_nil)) pa_nil)))))
  (psd_one (psd_if (ptd_cmp (op_eqD hr.units) opd_eq (pd_var 5) pd_int (nomark _))
  (psd_one (psd_app 2 (ps_expr (pe_bm PySem.F.plainAttrs_list PySem.F.slot_list_append PySem.F.type_list_append mt_append (pv 2) (pa_cons (pd_tup (pad_cons pd_int (pad_cons pd_int pad_nil))) pa_nil)))))
  (psd_one (psd_app 2 (ps_expr (pe_bm PySem.F.plainAttrs_list PySem.F.slot_list_append PySem.F.type_list_append mt_append (pv 2) (pa_cons (pd_call tk H_l_low.F (hr.mono (by decide)) (by rfl) H_l_low.m H_l_low.kp H_l_low.b (pad_cons (pd_op op_addA opd_add pd_int (pd_call tk H_l_take.F (hr.mono (by decide)) (by rfl) H_l_take.m H_l_take.kp H_l_take.b (pad_pool 0 (pad_cons pd_int pad_nil)))) (pad_cons (pd_op op_addA opd_add pd_int (pd_call tk H_l_take.F (hr.mono (by decide)) (by rfl) H_l_take.m H_l_take.kp H_l_take.b (pad_pool 0 (pad_cons pd_int pad_nil)))) pad_nil))) pa_nil)))))))))))
  (psd_fz 2 (psd_one (psd_ret (pd_var 2))))))))
/-! law: by hand -/
abbrev s_law : Stmt := topS 73
abbrev N_law : List Str := ["_law_script", "_law_pool_here", "_law_named", "_law_values", "_law_good", "_law_value_here", "_law_deed", "_law_held", "_law_bad", "_law_count", "_law_first"]
theorem sc_law : FnScope N_law ["_law_script"] (defScope s_law) := ⟨rfl, rfl, rfl, by decide +kernel, rfl, by decide +kernel, by decide +kernel⟩
def w_law (C : Addr) : WS := (wSeq (wAsg 2 (wOp fEq (wCall 2 c_l_take (aPool 1 (aCons (wC (.int 2)) aNil))) (wC (.int 1))))
  (wSeq (wAsg 3 (wLst (aCons (wCall 1 c_l_value (aPool 1 aNil)) (aCons (wCall 1 c_l_value (aPool 1 aNil)) (aCons (wCall 1 c_l_value (aPool 1 aNil)) aNil)))))
  (wSeq (wAsg 4 (wLst (aCons (wCall 1 c_l_small (aPool 1 aNil)) (aCons (wCall 1 c_l_small (aPool 1 aNil)) aNil))))
  (wSeq (wIfS (wTst (wOp fEq (wCall 2 c_l_take (aPool 1 (aCons (wC (.int 16)) aNil))) (wC (.int 15))))
  (wAsg 4 (wCall 1 c_l_long (aPool 1 aNil)))
  wNext)
  (wSeq (wFor (wSeqI (wOp fAdd (wVar 3) (wLst (aCons (wOp fSub (wCall 2 c_l_take (aPool 1 (aCons (wC (.int 9)) aNil))) (wC (.int 5))) (aCons (wCall 2 c_l_take (aPool 1 (aCons (wC (.int 61)) aNil))) aNil))))) [5] bName
  (wIfS (wNot (wTst (wCall 2 (c_l_alone C) (aCons (wVar 5) (aCons (wVar 2) aNil)))))
  (wRet (wC (.bool false)))
  wNext))
  (wSeq (wFor (wRng1 (wC (.int 5))) [6] bName
  (wSeq (wIfS (wOr (wNot (wTst (wCall 4 (c_l_pair C) (aCons (wVar 6) (aCons (wOp fIx (wVar 4) (wC (.int 0))) (aCons (wOp fIx (wVar 4) (wC (.int 1))) (aCons (wVar 2) aNil))))))) (wNot (wTst (wCall 4 (c_l_pair C) (aCons (wVar 6) (aCons (wOp fIx (wVar 4) (wC (.int 1))) (aCons (wOp fIx (wVar 4) (wC (.int 1))) (aCons (vNot (wVar 2)) aNil))))))))
  (wRet (wC (.bool false)))
  wNext)
  (wSeq (wIfS (wOr (wNot (wTst (wCall 4 (c_l_pair C) (aCons (wVar 6) (aCons (wOp fIx (wVar 4) (wC (.int 0))) (aCons (wOp fIx (wVar 3) (wC (.int 0))) (aCons (wVar 2) aNil))))))) (wNot (wTst (wCall 4 (c_l_pair C) (aCons (wVar 6) (aCons (wOp fIx (wVar 3) (wC (.int 1))) (aCons (wOp fIx (wVar 4) (wC (.int 1))) (aCons (wVar 2) aNil))))))))
  (wRet (wC (.bool false)))
  wNext)
  (wIfS (wNot (wTst (wCall 4 (c_l_pair C) (aCons (wVar 6) (aCons (wOp fIx (wVar 3) (wC (.int 2))) (aCons (wOp fIx (wVar 3) (wC (.int 0))) (aCons (vNot (wVar 2)) aNil)))))))
  (wRet (wC (.bool false)))
  wNext))))
  (wSeq (wAsg 7 (wCall 1 c_l_row (aPool 1 aNil)))
  (wSeq (wAsg 8 (wOp fIx (wLst (aCons (wUn fNeg (wC (.int 1))) (aCons (wC (.bool true)) (aCons (wC (.bool false)) (aCons (wC .none) (aCons (wC (.str "2")) (aCons (wTup (aCons (wC (.int 2)) aNil)) (aCons (wLst (aCons (wC (.int 1)) aNil)) (aCons (wOp fSub (wC (.int 0)) (wOp fPow (wC (.int 10)) (wC (.int 59)))) (aCons (wTup (aCons (wC (.int 2)) (aCons (wC (.int 1)) aNil))) aNil)))))))))) (wCall 2 c_l_take (aPool 1 (aCons (wC (.int 9)) aNil)))))
  (wSeq (wFor (wSeqI (wLst (aCons (wCB fLen (aCons (wVar 7) aNil)) (aCons (wCB fMax2 (aCons (wC (.int 0)) (aCons (wOp fSub (wCB fLen (aCons (wVar 7) aNil)) (wC (.int 1))) aNil))) (aCons (wOp fAdd (wCB fLen (aCons (wVar 7) aNil)) (wC (.int 1))) (aCons (wC (.int 0)) (aCons (wOp fPow (wC (.int 10)) (wC (.int 59))) (aCons (wVar 8) aNil)))))))) [9] bName
  (wSeq (wFor (wSeqI (wLst (aCons (wC (.int 5)) (aCons (wC (.int 6)) aNil)))) [6] bName
  (wIfS (wOr (wNot (wTst (wCall 4 (c_l_pair C) (aCons (wVar 6) (aCons (wVar 9) (aCons (wCB fTupOf (aCons (wVar 7) aNil)) (aCons (wVar 2) aNil))))))) (wNot (wTst (wCall 4 (c_l_pair C) (aCons (wVar 6) (aCons (wVar 9) (aCons (wLstOf (wVar 7)) (aCons (vNot (wVar 2)) aNil))))))))
  (wRet (wC (.bool false)))
  wNext))
  (wSeq (wIfS (wOr (wNot (wTst (wCall 4 (c_l_pair C) (aCons (wC (.int 5)) (aCons (wVar 9) (aCons (wOp fIx (wVar 3) (wC (.int 0))) (aCons (wVar 2) aNil))))))) (wNot (wTst (wCall 4 (c_l_pair C) (aCons (wC (.int 6)) (aCons (wVar 9) (aCons (wTup aNil) (aCons (wVar 2) aNil))))))))
  (wRet (wC (.bool false)))
  wNext)
  (wFor (wSeqI (wLst (aCons (wOp fIx (wVar 3) (wC (.int 1))) (aCons (wUn fNeg (wC (.int 5))) (aCons (wUn fNeg (wC (.int 4))) (aCons (wUn fNeg (wC (.int 1))) (aCons (wC (.int 0)) (aCons (wOp fSub (wCB fLen (aCons (wVar 7) aNil)) (wC (.int 1))) (aCons (wCB fLen (aCons (wVar 7) aNil)) (aCons (wC (.bool true)) aNil)))))))))) [5] bName
  (wIfS (wNot (wTst (wCall 4 (c_l_pair C) (aCons (wC (.int 7)) (aCons (wVar 9) (aCons (wVar 5) (aCons (wVar 2) aNil)))))))
  (wRet (wC (.bool false)))
  wNext)))))
  (wSeq (wAsg 10 (wCall 2 c_l_take (aPool 1 (aCons (wC (.int 9)) aNil))))
  (wRet (vAnd (wCall 2 c_l_papers (aCons (wVar 10) (aCons (wOp fAdd (wVar 10) (wC (.int 3))) aNil))) (wCall 2 c_l_errors (aCons (wVar 10) (aCons (wOp fAdd (wVar 10) (wC (.int 3))) aNil)))))))))))))))
theorem d_law {a_law : Addr} (T : Tx K mg C fI fdI ad) {a_l_pair : Addr} {fd_l_pair : FuncData} {a_l_alone : Addr} {fd_l_alone : FuncData} {a_l_errors : Addr} {fd_l_errors : FuncData} {a_l_papers : Addr} {fd_l_papers : FuncData} {a_l_long : Addr} {fd_l_long : FuncData} {a_l_small : Addr} {fd_l_small : FuncData} {a_l_value : Addr} {fd_l_value : FuncData} {a_l_take : Addr} {fd_l_take : FuncData} {a_l_row : Addr} {fd_l_row : FuncData} (H_l_row : Cl P w K mg base 5 "_law_row" s_l_row ["_law_pool_here"] 1 c_l_row a_l_row fd_l_row) (H_l_take : Cl P w K mg base 2 "_law_take" s_l_take ["_law_pool_here", "_law_size"] 2 c_l_take a_l_take fd_l_take) (H_l_value : Cl P w K mg base 4 "_law_value" s_l_value ["_law_pool_here"] 1 c_l_value a_l_value fd_l_value) (H_l_small : Cl P w K mg base 3 "_law_small" s_l_small ["_law_pool_here"] 1 c_l_small a_l_small fd_l_small) (H_l_long : Cl P w K mg base 3 "_law_long" s_l_long ["_law_pool_here"] 1 c_l_long a_l_long fd_l_long) (H_l_papers : Cl P w K mg base 3 "_law_papers" s_l_papers ["_law_first", "_law_second"] 2 c_l_papers a_l_papers fd_l_papers) (H_l_errors : Cl P w K mg base 3 "_law_errors" s_l_errors ["_law_first", "_law_second"] 2 c_l_errors a_l_errors fd_l_errors) (H_l_alone : Cl P w K mg base 6 "_law_alone" s_l_alone ["_law_value_here", "_law_named"] 2 (c_l_alone C) a_l_alone fd_l_alone) (H_l_pair : Cl P w K mg base 7 "_law_pair" s_l_pair ["_law_deed", "_law_left", "_law_right", "_law_named"] 4 (c_l_pair C) a_l_pair fd_l_pair) : ∀ (cdv : Value) (A : Around) (outer : List Env) (s : Shared) (H : Hp) (E : XK), Room 7 (cxOf (L2N.CX P w) P w K mg base N_law "law" (defScope s_law) a_law cdv A outer s H E).A → L2N.Takes (cxOf (L2N.CX P w) P w K mg base N_law "law" (defScope s_law) a_law cdv A outer s H E) (fun cls d _ H => E cls d H) →
    PSsd (cxOf (L2N.CX P w) P w K mg base N_law "law" (defScope s_law) a_law cdv A outer s H E) (fun cls d _ H => E cls d H) (defBody s_law).tail (w_law C) := fun cdv A outer s H E hr tk =>
  (psd_cons (psd_set sc_law.nd rfl (by first | exact Or.inl rfl | exact Or.inr rfl) (pd_cmp (op_eqD hr.units) opd_eq (pd_call tk H_l_take.F (hr.mono (by decide)) (by rfl) H_l_take.m H_l_take.kp H_l_take.b (pad_pool 1 (pad_cons pd_int pad_nil))) pd_int (nomark _)))
  (psd_cons (psd_set sc_law.nd rfl (by first | exact Or.inl rfl | exact Or.inr rfl) (PF.pd (pf_lst (pad_cons (pd_call tk H_l_value.F (hr.mono (by decide)) (by rfl) H_l_value.m H_l_value.kp H_l_value.b (pad_pool 1 pad_nil)) (pad_cons (pd_call tk H_l_value.F (hr.mono (by decide)) (by rfl) H_l_value.m H_l_value.kp H_l_value.b (pad_pool 1 pad_nil)) (pad_cons (pd_call tk H_l_value.F (hr.mono (by decide)) (by rfl) H_l_value.m H_l_value.kp H_l_value.b (pad_pool 1 pad_nil)) pad_nil))))))
  (psd_cons (psd_set sc_law.nd rfl (by first | exact Or.inl rfl | exact Or.inr rfl) (PF.pd (pf_lst (pad_cons (pd_call tk H_l_small.F (hr.mono (by decide)) (by rfl) H_l_small.m H_l_small.kp H_l_small.b (pad_pool 1 pad_nil)) (pad_cons (pd_call tk H_l_small.F (hr.mono (by decide)) (by rfl) H_l_small.m H_l_small.kp H_l_small.b (pad_pool 1 pad_nil)) pad_nil)))))
  (psd_cons (psd_if (ptd_cmp (op_eqD hr.units) opd_eq (pd_call tk H_l_take.F (hr.mono (by decide)) (by rfl) H_l_take.m H_l_take.kp H_l_take.b (pad_pool 1 (pad_cons pd_int pad_nil))) pd_int (nomark _))
  (psd_one (psd_set sc_law.nd rfl (by first | exact Or.inl rfl | exact Or.inr rfl) (pd_call tk H_l_long.F (hr.mono (by decide)) (by rfl) H_l_long.m H_l_long.kp H_l_long.b (pad_pool 1 pad_nil))))
  psd_nil)
  (psd_cons (psd_for .leaving rfl (pid_seq (pd_op op_addA opd_add (pd_var 3) (PF.pd (pf_lst (pad_cons (pd_op op_sub opd_sub (pd_call tk H_l_take.F (hr.mono (by decide)) (by rfl) H_l_take.m H_l_take.kp H_l_take.b (pad_pool 1 (pad_cons pd_int pad_nil))) pd_int) (pad_cons (pd_call tk H_l_take.F (hr.mono (by decide)) (by rfl) H_l_take.m H_l_take.kp H_l_take.b (pad_pool 1 (pad_cons pd_int pad_nil))) pad_nil)))))) (pg_name (i := 5) sc_law.nd rfl (by first | exact Or.inl rfl | exact Or.inr rfl)) bnd_name
  (psd_one (psd_if (ptd_not (ptd_val (pd_call tk H_l_alone.F (hr.mono (by decide)) (by rfl) H_l_alone.m H_l_alone.kp H_l_alone.b (pad_cons (pd_var 5) (pad_cons (pd_var 2) pad_nil)))))
  (psd_one (psd_ret pd_bl))
  psd_nil)))
  (psd_cons (psd_for .leaving rfl (pid_rng1 (by rfl) T.b_range pd_int) (pg_name (i := 6) sc_law.nd rfl (by first | exact Or.inl rfl | exact Or.inr rfl)) bnd_name
  (psd_cons (psd_if (PWd.pt (pwd_or (ptd_not (ptd_val (pd_call tk H_l_pair.F (hr.mono (by decide)) (by rfl) H_l_pair.m H_l_pair.kp H_l_pair.b (pad_cons (pd_var 6) (pad_cons (pd_ix ix_seq opd_ix (pd_var 4) pd_int (fun _ _ => rfl)) (pad_cons (pd_ix ix_seq opd_ix (pd_var 4) pd_int (fun _ _ => rfl)) (pad_cons (pd_var 2) pad_nil))))))) (pwd_or1 (ptd_not (ptd_val (pd_call tk H_l_pair.F (hr.mono (by decide)) (by rfl) H_l_pair.m H_l_pair.kp H_l_pair.b (pad_cons (pd_var 6) (pad_cons (pd_ix ix_seq opd_ix (pd_var 4) pd_int (fun _ _ => rfl)) (pad_cons (pd_ix ix_seq opd_ix (pd_var 4) pd_int (fun _ _ => rfl)) (pad_cons (pd_not (pd_var 2)) pad_nil))))))))))
  (psd_one (psd_ret pd_bl))
  psd_nil)
  (psd_cons (psd_if (PWd.pt (pwd_or (ptd_not (ptd_val (pd_call tk H_l_pair.F (hr.mono (by decide)) (by rfl) H_l_pair.m H_l_pair.kp H_l_pair.b (pad_cons (pd_var 6) (pad_cons (pd_ix ix_seq opd_ix (pd_var 4) pd_int (fun _ _ => rfl)) (pad_cons (pd_ix ix_seq opd_ix (pd_var 3) pd_int (fun _ _ => rfl)) (pad_cons (pd_var 2) pad_nil))))))) (pwd_or1 (ptd_not (ptd_val (pd_call tk H_l_pair.F (hr.mono (by decide)) (by rfl) H_l_pair.m H_l_pair.kp H_l_pair.b (pad_cons (pd_var 6) (pad_cons (pd_ix ix_seq opd_ix (pd_var 3) pd_int (fun _ _ => rfl)) (pad_cons (pd_ix ix_seq opd_ix (pd_var 4) pd_int (fun _ _ => rfl)) (pad_cons (pd_var 2) pad_nil))))))))))
  (psd_one (psd_ret pd_bl))
  psd_nil)
  (psd_one (psd_if (ptd_not (ptd_val (pd_call tk H_l_pair.F (hr.mono (by decide)) (by rfl) H_l_pair.m H_l_pair.kp H_l_pair.b (pad_cons (pd_var 6) (pad_cons (pd_ix ix_seq opd_ix (pd_var 3) pd_int (fun _ _ => rfl)) (pad_cons (pd_ix ix_seq opd_ix (pd_var 3) pd_int (fun _ _ => rfl)) (pad_cons (pd_not (pd_var 2)) pad_nil)))))))
  (psd_one (psd_ret pd_bl))
  psd_nil)))))
  (psd_cons (psd_set sc_law.nd rfl (by first | exact Or.inl rfl | exact Or.inr rfl) (pd_call tk H_l_row.F (hr.mono (by decide)) (by rfl) H_l_row.m H_l_row.kp H_l_row.b (pad_pool 1 pad_nil)))
  (psd_cons (psd_set sc_law.nd rfl (by first | exact Or.inl rfl | exact Or.inr rfl) (pd_ix ix_seq opd_ix (PF.pd (pf_lst (pad_cons (pd_un un_neg und_neg pd_int) (pad_cons pd_bl (pad_cons pd_bl (pad_cons pd_non (pad_cons pd_str (pad_cons (pd_tup (pad_cons pd_int pad_nil)) (pad_cons (PF.pd (pf_lst (pad_cons pd_int pad_nil))) (pad_cons (pd_op op_sub opd_sub pd_int (pd_op op_pow opd_pow pd_int pd_int)) (pad_cons (pd_tup (pad_cons pd_int (pad_cons pd_int pad_nil))) pad_nil))))))))))) (pd_call tk H_l_take.F (hr.mono (by decide)) (by rfl) H_l_take.m H_l_take.kp H_l_take.b (pad_pool 1 (pad_cons pd_int pad_nil))) (fun _ _ => rfl)))
  (psd_cons (psd_for .leaving rfl (pid_seq (PF.pd (pf_lst (pad_cons (pd_cb cad_len call_len (by rfl) T.b_len PySem.boot_len (pad_cons (pd_var 7) pad_nil)) (pad_cons (pd_cb cad_max2 (call_max2 rfl) (by rfl) T.b_max (by decide +kernel) (pad_cons pd_int (pad_cons (pd_op op_sub opd_sub (pd_cb cad_len call_len (by rfl) T.b_len PySem.boot_len (pad_cons (pd_var 7) pad_nil)) pd_int) pad_nil))) (pad_cons (pd_op op_addA opd_add (pd_cb cad_len call_len (by rfl) T.b_len PySem.boot_len (pad_cons (pd_var 7) pad_nil)) pd_int) (pad_cons pd_int (pad_cons (pd_op op_pow opd_pow pd_int pd_int) (pad_cons (pd_var 8) pad_nil))))))))) (pg_name (i := 9) sc_law.nd rfl (by first | exact Or.inl rfl | exact Or.inr rfl)) bnd_name
  (psd_cons (psd_for .leaving rfl (pid_seq (PF.pd (pf_lst (pad_cons pd_int (pad_cons pd_int pad_nil))))) (pg_name (i := 6) sc_law.nd rfl (by first | exact Or.inl rfl | exact Or.inr rfl)) bnd_name
  (psd_one (psd_if (PWd.pt (pwd_or (ptd_not (ptd_val (pd_call tk H_l_pair.F (hr.mono (by decide)) (by rfl) H_l_pair.m H_l_pair.kp H_l_pair.b (pad_cons (pd_var 6) (pad_cons (pd_var 9) (pad_cons (pd_cty cad_tupOf call_tuple_of (by rfl) T.b_tuple (by decide +kernel) (pad_cons (pd_var 7) pad_nil)) (pad_cons (pd_var 2) pad_nil))))))) (pwd_or1 (ptd_not (ptd_val (pd_call tk H_l_pair.F (hr.mono (by decide)) (by rfl) H_l_pair.m H_l_pair.kp H_l_pair.b (pad_cons (pd_var 6) (pad_cons (pd_var 9) (pad_cons (PF.pd (pf_lstOf (by rfl) T.b_list (pd_var 7))) (pad_cons (pd_not (pd_var 2)) pad_nil))))))))))
  (psd_one (psd_ret pd_bl))
  psd_nil)))
  (psd_cons (psd_if (PWd.pt (pwd_or (ptd_not (ptd_val (pd_call tk H_l_pair.F (hr.mono (by decide)) (by rfl) H_l_pair.m H_l_pair.kp H_l_pair.b (pad_cons pd_int (pad_cons (pd_var 9) (pad_cons (pd_ix ix_seq opd_ix (pd_var 3) pd_int (fun _ _ => rfl)) (pad_cons (pd_var 2) pad_nil))))))) (pwd_or1 (ptd_not (ptd_val (pd_call tk H_l_pair.F (hr.mono (by decide)) (by rfl) H_l_pair.m H_l_pair.kp H_l_pair.b (pad_cons pd_int (pad_cons (pd_var 9) (pad_cons (pd_tup pad_nil) (pad_cons (pd_var 2) pad_nil))))))))))
  (psd_one (psd_ret pd_bl))
  psd_nil)
  (psd_one (psd_for .leaving rfl (pid_seq (PF.pd (pf_lst (pad_cons (pd_ix ix_seq opd_ix (pd_var 3) pd_int (fun _ _ => rfl)) (pad_cons (pd_un un_neg und_neg pd_int) (pad_cons (pd_un un_neg und_neg pd_int) (pad_cons (pd_un un_neg und_neg pd_int) (pad_cons pd_int (pad_cons (pd_op op_sub opd_sub (pd_cb cad_len call_len (by rfl) T.b_len PySem.boot_len (pad_cons (pd_var 7) pad_nil)) pd_int) (pad_cons (pd_cb cad_len call_len (by rfl) T.b_len PySem.boot_len (pad_cons (pd_var 7) pad_nil)) (pad_cons pd_bl pad_nil))))))))))) (pg_name (i := 5) sc_law.nd rfl (by first | exact Or.inl rfl | exact Or.inr rfl)) bnd_name
  (psd_one (psd_if (ptd_not (ptd_val (pd_call tk H_l_pair.F (hr.mono (by decide)) (by rfl) H_l_pair.m H_l_pair.kp H_l_pair.b (pad_cons pd_int (pad_cons (pd_var 9) (pad_cons (pd_var 5) (pad_cons (pd_var 2) pad_nil)))))))
  (psd_one (psd_ret pd_bl))
  psd_nil)))))))
  (psd_cons (psd_set sc_law.nd rfl (by first | exact Or.inl rfl | exact Or.inr rfl) (pd_call tk H_l_take.F (hr.mono (by decide)) (by rfl) H_l_take.m H_l_take.kp H_l_take.b (pad_pool 1 (pad_cons pd_int pad_nil))))
  (psd_one (psd_ret (pd_and (pd_call tk H_l_papers.F (hr.mono (by decide)) (by rfl) H_l_papers.m H_l_papers.kp H_l_papers.b (pad_cons (pd_var 10) (pad_cons (pd_op op_addA opd_add (pd_var 10) pd_int) pad_nil))) (pd_one (pd_call tk H_l_errors.F (hr.mono (by decide)) (by rfl) H_l_errors.m H_l_errors.kp H_l_errors.b (pad_cons (pd_var 10) (pad_cons (pd_op op_addA opd_add (pd_var 10) pd_int) pad_nil)))))))))))))))))
end
end K00
-- K00e
set_option Elab.async false
set_option linter.all false
set_option maxRecDepth 100000
set_option maxHeartbeats 4000000
open PySem L2
namespace K00
open Hw
theorem sq_i {a b : WS} {Ed : WEnds} {env : List Sl} (h : a { Ed with nx := b Ed } env) : wSeq a b Ed env := h
theorem at0 {a : PyData} {l : List PyData} : atI (a :: l) 0 = some a := by
  unfold atI ixN
  rw [if_pos (by omega), if_pos (by simp)]
  rfl
theorem at1 {a b : PyData} {l : List PyData} : atI (a :: b :: l) 1 = some b := by
  unfold atI ixN
  rw [if_pos (by omega), if_pos (by simp only [List.length_cons]; omega)]
  rfl
theorem at2 {a b c : PyData} {l : List PyData} : atI (a :: b :: c :: l) 2 = some c := by
  unfold atI ixN
  rw [if_pos (by omega), if_pos (by simp only [List.length_cons]; omega)]
  rfl
local macro_rules | `(tactic| walk_at "hw") => `(tactic| simp only [wNext, wAsg, wAsgB, wAsgC, wRet, wRetN, wExp, wIfS, wFor, wWhile, wSetI, wApp, wPar, wFz, wRaise2, wTry, wVar, wC, wOp, wUn, wCB, wTup, wLst, wTst, Hw.wNot, wAnd, wOr, vAnd, vOr, vNot, wIf, wIsi, wCall, wCallK, wLc, wSeqI, wRng1, wZip, wLstOf, wSl, oNone, oSome, wRev, wIxC, wLenC, wTupC, wXf, wYes, aNil, aCons, aPool, datas, slot, startE, endsOf, setsE, wipeE, noC, noC1, bName, bTup, fAdd, fSub, fMulA, fMod, fDiv, fPow, fLt, fLe, fGt, fGe, fEq, fNe, fNeg, fIx, fGcd, fLen, fAbs, fInt1, fAll, fTupOf, fInt, fInt0, perm, List.set, List.length_cons, List.length_nil, List.replicate, List.cons_append, List.nil_append, List.map_cons, List.map_nil, Nat.reduceAdd, Nat.reduceSub, Nat.zero_add, Nat.sub_self, Option.map, Option.some.injEq, List.filterMap_cons, List.filterMap_nil, List.getElem?_cons_zero, List.getElem?_cons_succ, at0, at1, at2, true_and, and_true, eq_self, true_implies, reduceCtorEq, false_implies, implies_true, Bool.not_true, Bool.not_false, exists_eq_left, exists_eq_left'])

theorem r_reduced : ∀ ss Qd Xd, c_reduced ss Qd Xd → w_reduced (endsOf Qd Xd) (startE 3 ss) := by
  rintro ss Qd Xd ⟨a, b, m, rfl, hb, hm, h0, h9, h⟩
  have R := red_ok (a := a) hb
  have l1 := log_lt (gcd_lt (a := a) hb hm) h0 h9
  have n1 := gcd_ne (a := a) hb
  unfold w_reduced wSeq
  walk_at "hw"
  simp only [decide_eq_true_eq, decide_eq_false_iff_not]
  refine ⟨fun hlt => ?_, fun hge => ?_⟩
  · obtain ⟨q1, q2, q3, q4⟩ := R.1 hlt
    exact ⟨⟨by omega, by rw [Int.natAbs_neg]; exact l1⟩, ⟨by omega, by rw [Int.natAbs_neg]; exact l1⟩, by decide, h _ q1 q2 q3 q4⟩
  · obtain ⟨q1, q2, q3, q4⟩ := R.2 hge
    exact ⟨⟨n1, l1⟩, ⟨n1, l1⟩, by decide, h _ q1 q2 q3 q4⟩
theorem r_need {C : Addr} : ∀ ss Qd Xd, c_need C ss Qd Xd → w_need C (endsOf Qd Xd) (startE 2 ss) := by
  rintro ss Qd Xd ⟨b, w, rfl, h1, h2⟩
  unfold w_need
  walk_at "hw"
  cases b
  · simp only [Bool.not_false, true_implies, reduceCtorEq, false_implies, and_true]; exact h2 rfl
  · simp only [Bool.not_true, true_implies, reduceCtorEq, false_implies, true_and]; exact h1 rfl
theorem r_is_integer : ∀ ss Qd Xd, c_is_integer ss Qd Xd → w_is_integer (endsOf Qd Xd) (startE 1 ss) := by
  rintro ss Qd Xd ⟨d, rfl, h⟩
  unfold w_is_integer
  walk_at "hw"
  cases d <;> simp [isInt, isBool, isI] at h ⊢ <;> exact h
theorem isQ_2 {x y : PyData} (h : isI x = false ∨ isI y = false) : isQ (.tuple [x, y]) = false := by
  cases x <;> cases y <;> simp [isI, isQ] at h ⊢
theorem isQ_n {ds : List PyData} (h : ds.length ≠ 2) : isQ (.tuple ds) = false := by
  match ds, h with
  | [], _ => simp [isQ]
  | [_], _ => simp [isQ]
  | [_, _], h => exact absurd rfl h
  | _ :: _ :: _ :: _, _ => simp [isQ]
theorem r_is_quotient : ∀ ss Qd Xd, c_is_quotient ss Qd Xd → w_is_quotient (endsOf Qd Xd) (startE 3 ss) := by
  rintro ss Qd Xd ⟨d, rfl, h⟩
  unfold w_is_quotient
  refine sq_i ?_
  cases d
  case tuple ds =>
    walk_at "hw"
    simp only [isTup, shp_int, eqv_int, Bool.not_true, reduceCtorEq, false_implies, true_implies, true_and, Bool.not_eq_true', decide_eq_false_iff_not, Bool.not_eq_false', decide_eq_true_eq]
    refine ⟨fun hl => ?_, fun hl => ?_⟩
    · rw [isQ_n (by omega)] at h; exact h
    · have l2 : ds.length = 2 := by omega
      match ds, l2 with
      | [x, y], _ =>
        refine sq_i ?_
        walk_at "hw"
        refine ⟨[x, y], rfl, ?_⟩
        walk_at "hw"
        refine sq_i ?_
        walk_at "hw"
        refine ⟨x, rfl, ?_⟩
        refine ⟨fun hx => ?_, fun hx => ⟨y, rfl, ?_⟩⟩
        · have hx : isI x = false := by simpa using hx
          rw [isQ_2 (.inl hx)] at h; exact h
        · refine ⟨fun hy => ?_, fun hy => ?_⟩
          · have hy : isI y = false := by simpa using hy
            rw [isQ_2 (.inr hy)] at h; exact h
          · obtain ⟨a, rfl⟩ : ∃ a, x = .int a := by cases x <;> simp [isI] at hx ⊢
            obtain ⟨b, rfl⟩ : ∃ b, y = .int b := by cases y <;> simp [isI] at hy ⊢
            simp only [shp_int, eqv_int, true_and, decide_eq_true_eq, decide_eq_false_iff_not]
            refine ⟨fun hb => ?_, fun hb => ?_⟩
            · have e : isQ (.tuple [.int a, .int b]) = decide (((Nat.gcd a.natAbs b.natAbs : Nat) : Int) = 1) := by
                rw [Bool.eq_iff_iff]
                simp only [isQ, Bool.and_eq_true, decide_eq_true_eq]
                omega
              rw [e] at h; exact h
            · have e : isQ (.tuple [.int a, .int b]) = false := by
                simp only [isQ, Bool.and_eq_false_iff, decide_eq_false_iff_not]
                exact .inl hb
              rw [e] at h; exact h
  all_goals (walk_at "hw"; simp only [isTup, Bool.not_false, true_implies, reduceCtorEq, false_implies, and_true]; exact h)
theorem all_map (ds : List PyData) : (ds.map isQ).all id = ds.all isQ := by
  rw [List.all_map]; rfl
theorem r_is_row : ∀ ss Qd Xd, c_is_row ss Qd Xd → w_is_row (endsOf Qd Xd) (startE 2 ss) := by
  rintro ss Qd Xd ⟨d, rfl, hl, h⟩
  unfold w_is_row
  cases d
  case tuple ds =>
    walk_at "hw"
    simp only [isTup, true_implies, reduceCtorEq, false_implies, and_true]
    refine ⟨hl, fun i acc => acc = ((ds.take i).map isQ).map PyData.bool, rfl, ?_, ?_⟩
    · rintro i d acc hd _ rfl
      refine ⟨d, rfl, ?_⟩
      dsimp only
      rw [List.take_add_one, hd]
      simp
    · rintro acc _ rfl
      refine ⟨ds.map isQ, by rw [List.take_length], ?_⟩
      rw [all_map]; exact h
  all_goals (walk_at "hw"; simp only [isTup, true_implies, reduceCtorEq, false_implies, true_and]; exact h)
theorem r_sum_of_two : ∀ ss Qd Xd, c_sum_of_two ss Qd Xd → w_sum_of_two (endsOf Qd Xd) (startE 2 ss) := by
  rintro ss Qd Xd ⟨q, r, m, n, rfl, hq, hr, bq, br, h0, h1, h9, h⟩
  unfold w_sum_of_two dq
  walk_at "hw"
  have hb : q.2 * r.2 ≠ 0 := Int.mul_ne_zero (by have := hq.1; omega) (by have := hr.1; omega)
  refine ⟨.inl (wide bq.1 br.2 h0 h1 (by omega)), .inl (wide br.1 bq.2 h1 h0 (by omega)), .inl (wide bq.2 br.2 h0 h1 (by omega)), ?_⟩
  refine ⟨_, _, m + n, rfl, hb, imul_bt bq.2 br.2, by omega, by omega, fun s hs e l1 l2 => ?_⟩
  exact h s hs e (Eqq.bt (u := stepU q r) l1 l2 (stepU_bt bq br))
theorem r_difference_of_two : ∀ ss Qd Xd, c_difference_of_two ss Qd Xd → w_difference_of_two (endsOf Qd Xd) (startE 2 ss) := by
  rintro ss Qd Xd ⟨q, r, m, n, rfl, hq, hr, bq, br, h0, h1, h9, h⟩
  unfold w_difference_of_two dq
  walk_at "hw"
  have hb : q.2 * r.2 ≠ 0 := Int.mul_ne_zero (by have := hq.1; omega) (by have := hr.1; omega)
  have bn : Bt n (-r.1, r.2) := ⟨by show (-r.1).natAbs < _; rw [Int.natAbs_neg]; exact br.1, br.2⟩
  refine ⟨.inl (wide bq.1 br.2 h0 h1 (by omega)), .inl (wide br.1 bq.2 h1 h0 (by omega)), .inl (wide bq.2 br.2 h0 h1 (by omega)), ?_⟩
  have e0 : q.1 * r.2 - r.1 * q.2 = (stepU q (-r.1, r.2)).1 := by show _ = q.1 * r.2 + (-r.1) * q.2; rw [Int.neg_mul]; rfl
  rw [e0]
  refine ⟨_, _, m + n, rfl, hb, imul_bt bq.2 br.2, by omega, by omega, fun s hs e l1 l2 => ?_⟩
  exact h s hs e (Eqq.bt (u := stepU q (-r.1, r.2)) l1 l2 (stepU_bt bq bn))
theorem r_ratio_of_two : ∀ ss Qd Xd, c_ratio_of_two ss Qd Xd → w_ratio_of_two (endsOf Qd Xd) (startE 2 ss) := by
  rintro ss Qd Xd ⟨q, r, m, n, rfl, hq, hr, bq, br, h0, h1, h9, h⟩
  unfold w_ratio_of_two dq
  walk_at "hw"
  refine ⟨.inl (wide bq.1 br.2 h0 h1 (by omega)), .inl (wide bq.2 br.1 h0 h1 (by omega)), ?_⟩
  refine ⟨_, _, m + n, rfl, Int.mul_ne_zero (by have := hq.1; omega) hr, imul_bt bq.2 br.1, by omega, by omega, fun s hs e l1 l2 => ?_⟩
  exact h s hs e (Eqq.bt (u := (q.1 * r.2, q.2 * r.1)) l1 l2 ⟨imul_bt bq.1 br.2, imul_bt bq.2 br.1⟩)
theorem r_product_of_two : ∀ ss Qd Xd, c_product_of_two ss Qd Xd → w_product_of_two (endsOf Qd Xd) (startE 2 ss) := by
  rintro ss Qd Xd ⟨q, r, m, n, rfl, hq, hr, bq, br, h0, h1, h9, h⟩
  unfold w_product_of_two dq
  walk_at "hw"
  have hb : q.2 * r.2 ≠ 0 := Int.mul_ne_zero (by have := hq.1; omega) (by have := hr.1; omega)
  refine ⟨.inl (wide bq.1 br.1 h0 h1 (by omega)), .inl (wide bq.2 br.2 h0 h1 (by omega)), ?_⟩
  refine ⟨_, _, m + n, rfl, hb, imul_bt bq.2 br.2, by omega, by omega, fun s hs e l1 l2 => ?_⟩
  exact h s hs e (Eqq.bt (u := pr q r) l1 l2 (pr_bt bq br))
theorem r_lies_below : ∀ ss Qd Xd, c_lies_below ss Qd Xd → w_lies_below (endsOf Qd Xd) (startE 2 ss) := by
  rintro ss Qd Xd ⟨q, r, m, rfl, bq, br, h0, h9, h⟩
  unfold w_lies_below dq
  walk_at "hw"
  exact ⟨.inl (wide bq.1 br.2 h0 h0 (by omega)), .inl (wide br.1 bq.2 h0 h0 (by omega)), h⟩
theorem r_need_two {C : Addr} : ∀ ss Qd Xd, c_need_two C ss Qd Xd → w_need_two C (endsOf Qd Xd) (startE 2 ss) := by
  rintro ss Qd Xd ⟨d, e, rfl, h1, h2, h3⟩
  unfold w_need_two
  refine sq_i ?_
  walk_at "hw"
  refine ⟨d, rfl, isQ d, "one", rfl, fun hd => ⟨e, rfl, isQ e, "other", rfl, fun he => ?_, fun he => h2 hd he⟩, fun hd => h1 hd⟩
  obtain ⟨q, rfl, hq⟩ := isQ_inv hd
  obtain ⟨r, rfl, hr⟩ := isQ_inv he
  exact h3 q r rfl rfl hq hr
theorem two_of {C : Addr} {P : Qo → Qo → DQ → Prop} {d e : PyData} {Q Q' : DQ} {X : XQ} (h : cTwo C P [.val d, .val e] Q X) (hn : ∀ q r, d = dq q → e = dq r → IsQuo q → IsQuo r → P q r Q → Q' .none) : c_need_two C [.val d, .val e] Q' X := by
  obtain ⟨d', e', he, h1, h2, h3⟩ := h
  cases he
  exact ⟨d, e, rfl, h1, h2, fun q r hq hr iq ir => hn q r hq hr iq ir (h3 q r hq hr iq ir)⟩
theorem r_plus {C : Addr} : ∀ ss Qd Xd, c_plus C ss Qd Xd → w_plus C (endsOf Qd Xd) (startE 2 ss) := by
  intro ss Qd Xd h
  obtain ⟨d, e, rfl, _⟩ := id h
  unfold w_plus
  refine sq_i ?_
  walk_at "hw"
  refine two_of h fun q r hq hr iq ir ⟨m, n, bq, br, m0, n0, l, k⟩ => ⟨q, r, m, n, by rw [hq, hr], iq, ir, bq, br, m0, n0, l, k⟩
theorem r_times {C : Addr} : ∀ ss Qd Xd, c_times C ss Qd Xd → w_times C (endsOf Qd Xd) (startE 2 ss) := by
  intro ss Qd Xd h
  obtain ⟨d, e, rfl, _⟩ := id h
  unfold w_times
  refine sq_i ?_
  walk_at "hw"
  refine two_of h fun q r hq hr iq ir ⟨m, n, bq, br, m0, n0, l, k⟩ => ⟨q, r, m, n, by rw [hq, hr], iq, ir, bq, br, m0, n0, l, k⟩
theorem r_is_less {C : Addr} : ∀ ss Qd Xd, c_is_less C ss Qd Xd → w_is_less C (endsOf Qd Xd) (startE 2 ss) := by
  intro ss Qd Xd h
  obtain ⟨d, e, rfl, _⟩ := id h
  unfold w_is_less
  refine sq_i ?_
  walk_at "hw"
  refine two_of h fun q r hq hr iq ir ⟨m, bq, br, m0, l, k⟩ => ⟨q, r, m, by rw [hq, hr], bq, br, m0, l, k⟩
end K00
-- K00f
set_option Elab.async false
set_option linter.all false
set_option maxRecDepth 100000
set_option maxHeartbeats 4000000
open PySem L2
namespace K00
open Hw
local macro_rules | `(tactic| walk_at "hw") => `(tactic| simp only [wChain, wZf, wJoinRev, wIsx, wCallX, fStrI, fDivm, fMax2, wNext, wAsg, wAsgB, wAsgC, wRet, wRetN, wExp, wIfS, wFor, wWhile, wSetI, wApp, wPar, wFz, wRaise2, wTry, wVar, wC, wOp, wUn, wCB, wTup, wLst, wTst, Hw.wNot, wAnd, wOr, vAnd, vOr, vNot, wIf, wIsi, wCall, wCallK, wLc, wSeqI, wRng1, wZip, wLstOf, wSl, oNone, oSome, wRev, wIxC, wLenC, wTupC, wXf, wYes, aNil, aCons, aPool, datas, slot, startE, endsOf, setsE, wipeE, noC, noC1, bName, bTup, fAdd, fSub, fMulA, fMod, fDiv, fPow, fLt, fLe, fGt, fGe, fEq, fNe, fNeg, fIx, fGcd, fLen, fAbs, fInt1, fAll, fTupOf, fInt, fInt0, perm, List.set, List.length_cons, List.length_nil, List.replicate, List.cons_append, List.nil_append, List.map_cons, List.map_nil, Nat.reduceAdd, Nat.reduceSub, Nat.zero_add, Nat.sub_self, Option.map, Option.some.injEq, List.filterMap_cons, List.filterMap_nil, List.getElem?_cons_zero, List.getElem?_cons_succ, at0, at1, at2, true_and, and_true, eq_self, true_implies, reduceCtorEq, false_implies, implies_true, Bool.not_true, Bool.not_false, exists_eq_left, exists_eq_left'])
theorem r_is_number : ∀ ss Qd Xd, c_is_number ss Qd Xd → w_is_number (endsOf Qd Xd) (startE 1 ss) := by
  rintro ss Qd Xd ⟨d, rfl, h⟩
  unfold w_is_number
  walk_at "hw"
  refine ⟨d, rfl, ?_⟩
  cases d <;> simp [isI, isN] at h ⊢ <;> exact h
theorem r_is_positive : ∀ ss Qd Xd, c_is_positive ss Qd Xd → w_is_positive (endsOf Qd Xd) (startE 1 ss) := by
  rintro ss Qd Xd ⟨d, rfl, h⟩
  unfold w_is_positive
  walk_at "hw"
  refine ⟨d, rfl, fun hq => ?_, fun hq => ?_⟩
  · obtain ⟨q, rfl, iq⟩ := isQ_inv hq
    rw [hq] at h
    unfold dq at h ⊢
    walk_at "hw"
    have e : topGt 1 (.tuple [.int q.1, .int q.2]) = decide (0 < q.1) := by
      show decide (1 ≤ q.1) = _
      rw [decide_eq_decide]; omega
    rw [e] at h
    exact h
  · rw [hq] at h
    exact h
theorem r_is_side : ∀ ss Qd Xd, c_is_side ss Qd Xd → w_is_side (endsOf Qd Xd) (startE 1 ss) := by
  rintro ss Qd Xd ⟨d, rfl, h⟩
  unfold w_is_side
  walk_at "hw"
  refine ⟨d, rfl, ?_⟩
  cases d with
  | int i =>
    simp only [isI, isS, true_implies, reduceCtorEq, false_implies, and_true] at h ⊢
    refine ⟨fun h1 => ?_, fun h1 => ?_⟩
    · rw [h1] at h; exact h
    · rw [h1] at h; exact h
  | _ => simp [isI, isS] at h ⊢; exact h
theorem r_is_picture : ∀ ss Qd Xd, c_is_picture ss Qd Xd → w_is_picture (endsOf Qd Xd) (startE 2 ss) := by
  rintro ss Qd Xd ⟨n, d, rfl, h⟩
  unfold w_is_picture
  walk_at "hw"
  refine ⟨d, rfl, ?_⟩
  cases d with
  | int i =>
    simp only [isI, isPic, true_implies, reduceCtorEq, false_implies, and_true] at h ⊢
    refine ⟨fun h1 => ?_, fun h1 => ?_⟩
    · rw [h1] at h; exact h
    · rw [h1] at h; exact h
  | _ => simp [isI, isPic] at h ⊢; exact h
theorem r_is_place_among : ∀ ss Qd Xd, c_is_place_among ss Qd Xd → w_is_place_among (endsOf Qd Xd) (startE 2 ss) := by
  rintro ss Qd Xd ⟨n, d, rfl, h⟩
  unfold w_is_place_among
  walk_at "hw"
  refine ⟨d, rfl, fun h1 => ?_, fun h1 => ⟨n, d, rfl, ?_⟩⟩
  · rw [h1] at h; exact h
  · rw [h1] at h; exact h
theorem r_is_place {C : Addr} : ∀ ss Qd Xd, c_is_place C ss Qd Xd → w_is_place C (endsOf Qd Xd) (startE 2 ss) := by
  rintro ss Qd Xd ⟨m, d, rfl, h1, h2⟩
  unfold w_is_place
  refine sq_i ?_
  walk_at "hw"
  refine ⟨m, rfl, isN m, "many", rfl, fun hm => ?_, fun hm => h1 hm⟩
  cases m with
  | int n => exact ⟨n, d, rfl, h2 n rfl (of_decide_eq_true hm)⟩
  | _ => cases hm
theorem r_side_after {C : Addr} : ∀ ss Qd Xd, c_side_after C ss Qd Xd → w_side_after C (endsOf Qd Xd) (startE 1 ss) := by
  rintro ss Qd Xd ⟨d, rfl, h1, h2⟩
  unfold w_side_after
  refine sq_i ?_
  walk_at "hw"
  refine ⟨d, rfl, isS d, "side", rfl, fun hs => ?_, fun hs => h1 hs⟩
  cases d with
  | int i =>
    simp only [isS, Bool.and_eq_true, decide_eq_true_eq] at hs
    walk_at "hw"
    exact ⟨by decide, h2 i rfl hs.1 hs.2⟩
  | _ => cases hs
theorem r_side_opposite {C : Addr} : ∀ ss Qd Xd, c_side_opposite C ss Qd Xd → w_side_opposite C (endsOf Qd Xd) (startE 1 ss) := by
  rintro ss Qd Xd ⟨d, rfl, h1, h2⟩
  unfold w_side_opposite
  refine sq_i ?_
  walk_at "hw"
  refine ⟨d, rfl, isS d, "side", rfl, fun hs => ?_, fun hs => h1 hs⟩
  cases d with
  | int i =>
    simp only [isS, Bool.and_eq_true, decide_eq_true_eq] at hs
    walk_at "hw"
    exact ⟨by decide, h2 i rfl hs.1 hs.2⟩
  | _ => cases hs
end K00
-- K00g
set_option Elab.async false
set_option linter.all false
set_option maxRecDepth 100000
set_option maxHeartbeats 4000000
open PySem L2
namespace K00
open Hw
local macro_rules | `(tactic| walk_at "hw") => `(tactic| simp only [wChain, wZf, wJoinRev, wIsx, wCallX, fStrI, fDivm, fMax2, wNext, wAsg, wAsgB, wAsgC, wRet, wRetN, wExp, wIfS, wFor, wWhile, wSetI, wApp, wPar, wFz, wRaise2, wTry, wVar, wC, wOp, wUn, wCB, wTup, wLst, wTst, Hw.wNot, wAnd, wOr, vAnd, vOr, vNot, wIf, wIsi, wCall, wCallK, wLc, wSeqI, wRng1, wZip, wLstOf, wSl, oNone, oSome, wRev, wIxC, wLenC, wTupC, wXf, wYes, aNil, aCons, aPool, datas, slot, startE, endsOf, setsE, wipeE, noC, noC1, bName, bTup, fAdd, fSub, fMulA, fMod, fDiv, fPow, fLt, fLe, fGt, fGe, fEq, fNe, fNeg, fIx, fGcd, fLen, fAbs, fInt1, fAll, fTupOf, fInt, fInt0, perm, List.set, List.length_cons, List.length_nil, List.replicate, List.cons_append, List.nil_append, List.map_cons, List.map_nil, Nat.reduceAdd, Nat.reduceSub, Nat.zero_add, Nat.sub_self, Option.map, Option.some.injEq, List.filterMap_cons, List.filterMap_nil, List.getElem?_cons_zero, List.getElem?_cons_succ, at0, at1, at2, true_and, and_true, eq_self, true_implies, reduceCtorEq, false_implies, implies_true, Bool.not_true, Bool.not_false, exists_eq_left, exists_eq_left'])
theorem rowGe_qs {l : Int} {qs : List Qo} (h : ∀ q ∈ qs, IsQuo q) : isRowGe l (.tuple (qs.map dq)) = qs.all fun q => decide (l ≤ q.1) := by
  show (qs.map dq).all _ = _
  rw [List.all_map, Bool.eq_iff_iff, List.all_eq_true, List.all_eq_true]
  constructor
  · intro z q hq
    have := z q hq
    simp only [Function.comp, Bool.and_eq_true] at this
    exact this.2
  · intro z q hq
    simp only [Function.comp, Bool.and_eq_true]
    exact ⟨isQ_dq (h q hq), z q hq⟩
theorem rowGe_no {l : Int} {d : PyData} (h : isRow d = false) : isRowGe l d = false := by
  cases d with
  | tuple ds =>
    rw [Bool.eq_false_iff] at h ⊢
    intro z
    apply h
    have z : (ds.all fun d => isQ d && topGt l d) = true := z
    show ds.all isQ = true
    rw [List.all_eq_true] at z ⊢
    intro d hd
    have := z d hd
    simp only [Bool.and_eq_true] at this
    exact this.1
  | _ => rfl
theorem dmap_get {qs : List Qo} {i : Nat} {d : PyData} (h : (qs.map dq)[i]? = some d) : ∃ q, qs[i]? = some q ∧ d = dq q := by
  rw [List.getElem?_map] at h
  cases e : qs[i]? with
  | none => rw [e] at h; cases h
  | some q => rw [e] at h; cases h; exact ⟨q, rfl, rfl⟩
theorem all_step {qs : List Qo} {f : Qo → Bool} {i : Nat} {q : Qo} (h : qs[i]? = some q) : ((qs.take (i + 1)).map f).map PyData.bool = ((qs.take i).map f).map PyData.bool ++ [.bool (f q)] := by
  rw [List.take_add_one, h]
  simp
theorem r_is_shape_row : ∀ ss Qd Xd, c_is_shape_row ss Qd Xd → w_is_shape_row (endsOf Qd Xd) (startE 2 ss) := by
  rintro ss Qd Xd ⟨d, rfl, hl, h⟩
  unfold w_is_shape_row
  walk_at "hw"
  refine ⟨d, rfl, hl, fun hr => ?_, fun hr => ?_⟩
  · obtain ⟨qs, rfl, iq⟩ := isRow_inv hr
    rw [rowGe_qs iq] at h
    walk_at "hw"
    refine ⟨hl, fun i acc => acc = ((qs.take i).map fun q => decide (1 ≤ q.1)).map PyData.bool, rfl, ?_, ?_⟩
    · rintro i d acc hd _ rfl
      obtain ⟨q, hq, rfl⟩ := dmap_get hd
      refine ⟨_, rfl, ?_⟩
      show _ = _
      rw [all_step hq]
      have e : decide (0 < q.1) = decide (1 ≤ q.1) := by rw [decide_eq_decide]; omega
      rw [e]
    · rintro acc _ rfl
      refine ⟨qs.map fun q => decide (1 ≤ q.1), by rw [List.length_map, List.take_length], ?_⟩
      rw [List.all_map]
      exact h
  · rw [rowGe_no hr] at h
    exact h
theorem r_is_shapes {C : Addr} : ∀ ss Qd Xd, c_is_shapes C ss Qd Xd → w_is_shapes C (endsOf Qd Xd) (startE 2 ss) := by
  rintro ss Qd Xd ⟨m, d, rfl, hl, h1, h2⟩
  unfold w_is_shapes
  refine sq_i ?_
  walk_at "hw"
  refine ⟨m, rfl, isN m, "many", rfl, fun hm => ?_, fun hm => h1 hm⟩
  cases m with
  | int n =>
    have h := h2 n rfl (of_decide_eq_true hm)
    refine ⟨d, rfl, hl, fun hr => ?_, fun hr => ?_⟩
    · rw [hr] at h
      cases d with
      | tuple ds =>
        walk_at "hw"
        simp only [shp_int, eqv_int, true_and]
        exact h
      | _ => cases hr
    · rw [hr] at h
      exact h
  | _ => cases hm
theorem r_is_table {C : Addr} : ∀ ss Qd Xd, c_is_table C ss Qd Xd → w_is_table C (endsOf Qd Xd) (startE 3 ss) := by
  rintro ss Qd Xd ⟨m, d, rfl, hl, h1, h2⟩
  unfold w_is_table
  refine sq_i ?_
  walk_at "hw"
  refine ⟨m, rfl, isN m, "many", rfl, fun hm => ?_, fun hm => h1 hm⟩
  cases m with
  | int n =>
    have h := h2 n rfl (of_decide_eq_true hm)
    refine ⟨d, rfl, hl, fun hr => ?_, fun hr => ?_⟩
    · obtain ⟨qs, rfl, iq⟩ := isRow_inv hr
      rw [rowGe_qs iq] at h
      walk_at "hw"
      simp only [shp_int, eqv_int, true_and]
      refine ⟨fun hz => ?_, fun hz => ?_⟩
      · rw [show decide (((dlen (.tuple (qs.map dq)) : Nat) : Int) = n) = true from hz, Bool.and_true] at h
        refine ⟨hl, fun i acc => acc = ((qs.take i).map fun q => decide (0 ≤ q.1)).map PyData.bool, rfl, ?_, ?_⟩
        · rintro i d acc hd _ rfl
          obtain ⟨q, hq, rfl⟩ := dmap_get hd
          refine ⟨_, rfl, ?_⟩
          show _ = _
          rw [all_step hq]
        · rintro acc _ rfl
          refine ⟨qs.map fun q => decide (0 ≤ q.1), by rw [List.length_map, List.take_length], ?_⟩
          rw [List.all_map]
          exact h
      · rw [show decide (((dlen (.tuple (qs.map dq)) : Nat) : Int) = n) = false from hz, Bool.and_false] at h
        exact h
    · rw [rowGe_no hr] at h
      exact h
  | _ => cases hm
theorem ng_quo {q : Qo} (h : IsQuo q) : IsQuo (ng q) := ⟨h.1, by show Nat.gcd (-q.1).natAbs _ = 1; rw [Int.natAbs_neg]; exact h.2⟩
theorem r_minus {C : Addr} : ∀ ss Qd Xd, c_minus C ss Qd Xd → w_minus C (endsOf Qd Xd) (startE 2 ss) := by
  intro ss Qd Xd h
  obtain ⟨d, e, rfl, _⟩ := id h
  unfold w_minus
  refine sq_i ?_
  walk_at "hw"
  refine two_of h fun q r hq hr iq ir ⟨m, n, bq, br, m0, n0, l, k⟩ => ?_
  subst hq hr
  exact ⟨q, r, m, n, rfl, iq, ir, bq, ⟨by have := br.1; rwa [show (ng r).1 = -r.1 from rfl, Int.natAbs_neg] at this, br.2⟩, m0, n0, l, k⟩
end K00
-- K00h
set_option Elab.async false
set_option linter.all false
set_option maxRecDepth 100000
set_option maxHeartbeats 4000000
open PySem L2
namespace K00
open Hw
local macro_rules | `(tactic| walk_at "hw") => `(tactic| simp only [wChain, wZf, wJoinRev, wIsx, wCallX, fStrI, fDivm, fMax2, wNext, wAsg, wAsgB, wAsgC, wRet, wRetN, wExp, wIfS, wFor, wWhile, wSetI, wApp, wPar, wFz, wRaise2, wTry, wVar, wC, wOp, wUn, wCB, wTup, wLst, wTst, Hw.wNot, wAnd, wOr, vAnd, vOr, vNot, wIf, wIsi, wCall, wCallK, wLc, wSeqI, wRng1, wZip, wLstOf, wSl, oNone, oSome, wRev, wIxC, wLenC, wTupC, wXf, wYes, aNil, aCons, aPool, datas, slot, startE, endsOf, setsE, wipeE, noC, noC1, bName, bTup, fAdd, fSub, fMulA, fMod, fDiv, fPow, fLt, fLe, fGt, fGe, fEq, fNe, fNeg, fIx, fGcd, fLen, fAbs, fInt1, fAll, fTupOf, fInt, fInt0, perm, List.set, List.length_cons, List.length_nil, List.replicate, List.cons_append, List.nil_append, List.map_cons, List.map_nil, Nat.reduceAdd, Nat.reduceSub, Nat.zero_add, Nat.sub_self, Option.map, Option.some.injEq, List.filterMap_cons, List.filterMap_nil, List.getElem?_cons_zero, List.getElem?_cons_succ, at0, at1, at2, true_and, and_true, eq_self, true_implies, reduceCtorEq, false_implies, implies_true, Bool.not_true, Bool.not_false, exists_eq_left, exists_eq_left'])
theorem r_over {C : Addr} : ∀ ss Qd Xd, c_over C ss Qd Xd → w_over C (endsOf Qd Xd) (startE 2 ss) := by
  rintro ss Qd Xd ⟨d, e, rfl, h1, h2, h3⟩
  unfold w_over
  refine sq_i ?_
  walk_at "hw"
  refine ⟨d, e, rfl, h1, h2, fun q r hd he iq ir => ?_⟩
  obtain ⟨h4, h5⟩ := h3 q r hd he iq ir
  subst hd he
  refine sq_i ?_
  walk_at "hw"
  refine Exists.intro _ (And.intro rfl ?_)
  simp only [shp_int, eqv_int, true_and]
  refine ⟨_, "other", rfl, fun hb => ?_, fun hb => h4 ?_⟩
  · have hr : r.1 ≠ 0 := fun z => by rw [z] at hb; exact Bool.noConfusion hb
    obtain ⟨m, n, bq, br, m0, n0, l, k⟩ := h5 hr
    exact ⟨q, r, m, n, rfl, iq, hr, bq, br, m0, n0, l, k⟩
  · by_cases z : r.1 = 0
    · exact z
    · rw [decide_eq_false z] at hb; exact Bool.noConfusion hb
theorem log_19 {n : Nat} (h : n < 10 ^ 18) : ((n : Nat) : Int).natAbs.log2 < 1920 := by
  rw [Int.natAbs_natCast]
  exact Nat.lt_of_lt_of_le (PySem.Flt.log2_lt_of (k := 60) (by decide) (Nat.lt_of_lt_of_le h (by decide))) (by decide)
theorem strN_len {n : Nat} (h : n < 10 ^ 18) : (strN n).length ≤ 18 := by
  have := dg_len (k := 18) (by decide) h
  unfold strN Str.length
  simpa using this
theorem sum_18 : ∀ {ys : List Str}, (∀ y ∈ ys, y.length = 18) → (ys.map (·.length)).sum = 18 * ys.length
  | [], _ => rfl
  | y :: ys, h => by
    rw [List.map_cons, List.sum_cons, h y List.mem_cons_self, sum_18 fun z hz => h z (List.mem_cons_of_mem _ hz), List.length_cons]
    omega
theorem r_decimal : ∀ ss Qd Xd, c_decimal ss Qd Xd → w_decimal (endsOf Qd Xd) (startE 3 ss) := by
  rintro ss Qd Xd ⟨n, rfl, hn, h⟩
  unfold w_decimal
  refine sq_i ?_
  walk_at "hw"
  refine And.intro (by decide) (sq_i ?_)
  walk_at "hw"
  refine ⟨fun m' env => ∃ (m : Nat) (ys : List Str) (c : Sl), env = [.val (.int m), .cell (ys.map PyData.str), c] ∧ m' = m ∧ (∀ y ∈ ys, y.length = 18) ∧ ys.length ≤ 6 ∧ m * 10 ^ (18 * ys.length) ≤ n ∧ dg n = dg m ++ (ys.reverse.map fun y => y.cps.toList).flatten,
    ⟨n, n, [], _, rfl, rfl, (fun _ h => by cases h), by decide, by simp, by simp⟩, ?_⟩
  rintro m' env ⟨m, ys, c, rfl, rfl, hy, l6, hle, hdg⟩
  walk_at "hw"
  refine ⟨fun hge => sq_i ?_, fun hlt => sq_i ?_⟩
  · have hge : 1000000000000000000 ≤ m' := by have := of_decide_eq_true hge; omega
    have q1 : 0 < m' / 1000000000000000000 := Nat.div_pos hge (by decide)
    have rl : m' % 1000000000000000000 < 10 ^ 18 := Nat.mod_lt _ (by decide)
    have e1 : ((m' : Nat) : Int) / 1000000000000000000 = ((m' / 1000000000000000000 : Nat) : Int) := (Int.natCast_ediv m' 1000000000000000000).symm
    have e2 : ((m' : Nat) : Int) % 1000000000000000000 = ((m' % 1000000000000000000 : Nat) : Int) := (Int.natCast_emod m' 1000000000000000000).symm
    have em : m' = m' / 1000000000000000000 * 10 ^ 18 + m' % 1000000000000000000 := by
      have := Nat.div_add_mod m' 1000000000000000000
      omega
    have le2 : m' / 1000000000000000000 * 10 ^ (18 * (ys.length + 1)) ≤ n := by
      refine Nat.le_trans ?_ hle
      have : 18 * (ys.length + 1) = 18 + 18 * ys.length := by omega
      rw [this, Nat.pow_add, ← Nat.mul_assoc]
      exact Nat.mul_le_mul_right _ (by omega)
    have l4 : ys.length + 1 ≤ 6 := by
      have h1 : 10 ^ (18 * (ys.length + 1)) < 10 ^ 90 := Nat.lt_of_le_of_lt (Nat.le_trans (Nat.le_mul_of_pos_left _ q1) le2) hn
      have := (Nat.pow_lt_pow_iff_right (by decide : 1 < 10)).1 h1
      omega
    walk_at "hw"
    refine ⟨by decide, by decide +kernel, ?_⟩
    rw [e1, e2]
    refine ⟨_, rfl, ?_⟩
    walk_at "hw"
    refine ⟨log_19 rl, by decide, by simp; omega, ?_⟩
    rw [str_int]
    have zl : (Txt.zfill (strN (m' % 1000000000000000000)) 18).length = 18 := by
      have := zfill_18 rl
      unfold Str.length
      rw [← Array.length_toList, this]
      exact zp_len (by decide) rl
    refine ⟨m' / 1000000000000000000, by omega, m' / 1000000000000000000, ys ++ [Txt.zfill (strN (m' % 1000000000000000000)) 18], _, by rw [List.map_append]; rfl, rfl, fun y hy' => ?_, ?_, ?_, ?_⟩
    · rcases List.mem_append.1 hy' with z | z
      · exact hy y z
      · rw [List.mem_singleton.1 z]; exact zl
    · rw [List.length_append]; exact l4
    · rw [List.length_append]; exact le2
    · rw [List.reverse_append, List.map_append, List.flatten_append]
      show dg n = _ ++ ((Txt.zfill (strN (m' % 1000000000000000000)) 18).cps.toList ++ [] ++ _)
      rw [zfill_18 rl, List.append_nil, ← List.append_assoc, ← dg_split (by decide) q1 rl, ← em]
      exact hdg
  · have hlt : m' < 10 ^ 18 := by have := of_decide_eq_false hlt; omega
    walk_at "hw"
    refine ⟨log_19 hlt, by simp; omega, ?_⟩
    rw [str_int]
    refine ⟨ys ++ [strN m'], by rw [List.map_append]; rfl, ?_, ?_⟩
    · have := strN_len hlt
      rw [List.map_append, List.sum_append, sum_18 hy]
      have e0 : (Str.ofString "").length = 0 := by decide
      rw [e0, Nat.mul_zero]
      simp only [List.map_cons, List.map_nil, List.sum_cons, List.sum_nil]
      omega
    · have e : Txt.join (Str.ofString "") (ys ++ [strN m']).reverse = strN n := by
        refine str_ext ?_
        show (Builtin.Str.glued _ _).cps.toList = _
        rw [PySem.StrLaws.glued_eq_join, join_cps, List.reverse_append]
        show ((strN m').cps.toList ++ (ys.reverse.map fun y => y.cps.toList).flatten) = _
        unfold strN
        simp only
        exact hdg.symm
      rw [e]
      exact h
end K00
-- K00i
set_option Elab.async false
set_option linter.all false
set_option maxRecDepth 100000
set_option maxHeartbeats 4000000
open PySem L2
namespace K00
open Hw
local macro_rules | `(tactic| walk_at "hw") => `(tactic| simp only [wChain, wZf, wJoinRev, wIsx, wCallX, fStrI, fDivm, fMax2, wNext, wAsg, wAsgB, wAsgC, wRet, wRetN, wExp, wIfS, wFor, wWhile, wSetI, wApp, wPar, wFz, wRaise2, wTry, wVar, wC, wOp, wUn, wCB, wTup, wLst, wTst, Hw.wNot, wAnd, wOr, vAnd, vOr, vNot, wIf, wIsi, wCall, wCallK, wLc, wSeqI, wRng1, wZip, wLstOf, wSl, oNone, oSome, wRev, wIxC, wLenC, wTupC, wXf, wYes, aNil, aCons, aPool, datas, slot, startE, endsOf, setsE, wipeE, noC, noC1, bName, bTup, fAdd, fSub, fMulA, fMod, fDiv, fPow, fLt, fLe, fGt, fGe, fEq, fNe, fNeg, fIx, fGcd, fLen, fAbs, fInt1, fAll, fTupOf, fInt, fInt0, perm, List.set, List.length_cons, List.length_nil, List.replicate, List.cons_append, List.nil_append, List.map_cons, List.map_nil, Nat.reduceAdd, Nat.reduceSub, Nat.zero_add, Nat.sub_self, Option.map, Option.some.injEq, List.filterMap_cons, List.filterMap_nil, List.getElem?_cons_zero, List.getElem?_cons_succ, at0, at1, at2, true_and, and_true, eq_self, true_implies, reduceCtorEq, false_implies, implies_true, Bool.not_true, Bool.not_false, exists_eq_left, exists_eq_left'])
theorem letter_at {i : Int} (h1 : -4 ≤ i) (h2 : i ≤ -1) : ∃ c, atI ((Str.ofString "WNES").cps.toList) (i + 4) = some c ∧ letter i = ⟨#[c]⟩ := by
  have e : (Str.ofString "WNES").cps.toList = [87, 78, 69, 83] := by decide
  rw [e]
  have : i = -4 ∨ i = -3 ∨ i = -2 ∨ i = -1 := by omega
  rcases this with rfl | rfl | rfl | rfl
  · exact ⟨87, rfl, by decide⟩
  · exact ⟨78, rfl, by decide⟩
  · exact ⟨69, rfl, by decide⟩
  · exact ⟨83, rfl, by decide⟩
theorem r_place_letter {C : Addr} : ∀ ss Qd Xd, c_place_letter C ss Qd Xd → w_place_letter C (endsOf Qd Xd) (startE 1 ss) := by
  rintro ss Qd Xd ⟨d, rfl, h1, h2, h3⟩
  unfold w_place_letter
  refine sq_i ?_
  walk_at "hw"
  have rest : (isS d || isN d) = true → wSeq (wIfS (wTst (wOp fLt (wVar 0) (wC (.int 0)))) (wRet (wOp fIx (wC (.str "WNES")) (wOp fAdd (wVar 0) (wC (.int 4))))) wNext) (wRet (wCall 1 c_decimal (aCons (wVar 0) aNil))) (endsOf Qd Xd) [.val d] := by
    intro hd
    cases d with
    | int i =>
      refine sq_i ?_
      walk_at "hw"
      refine ⟨fun hl => ?_, fun hl => ?_⟩
      · have hl := of_decide_eq_true hl
        have i4 : -4 ≤ i ∧ i ≤ -1 := by
          simp only [isS, isN, Bool.or_eq_true, Bool.and_eq_true, decide_eq_true_eq] at hd
          omega
        obtain ⟨c, e1, e2⟩ := letter_at i4.1 i4.2
        refine ⟨c, by decide, e1, ?_⟩
        rw [← e2]
        exact h2 i rfl i4.1 i4.2
      · have hl := of_decide_eq_false hl
        obtain ⟨n, rfl⟩ := Int.eq_ofNat_of_zero_le (show 0 ≤ i by omega)
        obtain ⟨h4, h5⟩ := h3 n rfl
        exact ⟨n, rfl, h4, h5⟩
    | _ => cases hd
  refine ⟨d, rfl, fun hs => ?_, fun hs => ?_⟩
  · exact ⟨true, "place", rfl, fun _ => rest (by rw [hs]; rfl), fun z => Bool.noConfusion z⟩
  · refine ⟨d, rfl, isN d, "place", rfl, fun hn => rest (by rw [hn]; simp), fun hn => h1 ?_⟩
    rw [hs, hn]; rfl
theorem r_l_whole : ∀ ss Qd Xd, c_l_whole ss Qd Xd → w_l_whole (endsOf Qd Xd) (startE 1 ss) := by
  rintro ss Qd Xd ⟨d, rfl, h⟩
  unfold w_l_whole
  walk_at "hw"
  cases d <;> simp [isInt, isBool, isI] at h ⊢ <;> exact h
theorem small_r {i j : Int} (h : -(2 ^ 64) < j ∧ j < 2 ^ 64) : i.natAbs.log2 + j.natAbs.log2 < 1000000 ∨ -(2 ^ 64) < i ∧ i < 2 ^ 64 ∨ -(2 ^ 64) < j ∧ j < 2 ^ 64 := .inr (.inr h)
theorem small_l {i j : Int} (h : -(2 ^ 64) < i ∧ i < 2 ^ 64) : i.natAbs.log2 + j.natAbs.log2 < 1000000 ∨ -(2 ^ 64) < i ∧ i < 2 ^ 64 ∨ -(2 ^ 64) < j ∧ j < 2 ^ 64 := .inr (.inl h)
theorem mod_small {x m : Int} (h0 : 0 < m) (h : m < 2 ^ 64) : -(2 ^ 64) < x % m ∧ x % m < 2 ^ 64 := by
  have := Int.emod_nonneg x (show m ≠ 0 by omega)
  have := Int.emod_lt_of_pos x h0
  omega
theorem r_l_mixed : ∀ ss Qd Xd, c_l_mixed ss Qd Xd → w_l_mixed (endsOf Qd Xd) (startE 5 ss) := by
  rintro ss Qd Xd ⟨a, b, rfl, h⟩
  unfold w_l_mixed
  refine sq_i ?_
  walk_at "hw"
  refine ⟨small_r (by decide), small_r (by decide), by decide, sq_i ?_⟩
  walk_at "hw"
  refine ⟨small_l (mod_small (by decide) (by decide)), small_r (by decide), by decide, sq_i ?_⟩
  walk_at "hw"
  refine ⟨small_l (mod_small (by decide) (by decide)), ⟨by decide, by decide +kernel⟩, small_r (by decide), by decide, ?_⟩
  exact ⟨⟨by decide, by decide +kernel⟩, h _⟩
theorem gcd_step {a b : Int} (ha : 0 ≤ a) (hb : 0 < b) : Nat.gcd b.natAbs (a % b).natAbs = Nat.gcd a.natAbs b.natAbs := by
  have e : (a % b).natAbs = a.natAbs % b.natAbs := by
    obtain ⟨x, rfl⟩ := Int.eq_ofNat_of_zero_le ha
    obtain ⟨y, rfl⟩ := Int.eq_ofNat_of_zero_le (Int.le_of_lt hb)
    rw [← Int.natCast_emod]
    rfl
  rw [e, Nat.gcd_comm a.natAbs, Nat.gcd_rec b.natAbs a.natAbs, Nat.gcd_comm]
theorem r_l_common : ∀ ss Qd Xd, c_l_common ss Qd Xd → w_l_common (endsOf Qd Xd) (startE 2 ss) := by
  rintro ss Qd Xd ⟨a, b, rfl, ha, hb, h⟩
  unfold w_l_common
  refine sq_i ?_
  walk_at "hw"
  refine ⟨fun m env => ∃ x y : Int, env = [.val (.int x), .val (.int y)] ∧ 0 ≤ x ∧ 0 ≤ y ∧ Nat.gcd x.natAbs y.natAbs = Nat.gcd a.natAbs b.natAbs ∧ m = y.toNat, ⟨b.toNat, a, b, rfl, ha, hb, rfl, rfl⟩, ?_⟩
  rintro m env ⟨x, y, rfl, hx, hy, hg, rfl⟩
  walk_at "hw"
  simp only [shp_int, eqv_int, true_and, Bool.not_eq_true', decide_eq_false_iff_not, Bool.not_eq_false', decide_eq_true_eq]
  refine ⟨fun hne => ⟨by omega, (x % y).toNat, ?_, y, x % y, rfl, hy, Int.emod_nonneg _ hne, ?_, rfl⟩, fun he => ?_⟩
  · have := Int.emod_lt_of_pos x (show 0 < y by omega)
    have := Int.emod_nonneg x hne
    omega
  · rw [gcd_step hx (by omega), hg]
  · have e : x = ((Nat.gcd a.natAbs b.natAbs : Nat) : Int) := by
      rw [← hg, he, Int.natAbs_zero, Nat.gcd_zero_right]
      omega
    rw [e]; exact h
theorem r_l_low : ∀ ss Qd Xd, c_l_low ss Qd Xd → w_l_low (endsOf Qd Xd) (startE 3 ss) := by
  rintro ss Qd Xd ⟨a, b, m, rfl, hb, hm, h0, h9, h⟩
  have R := (red_ok (a := a) (b := b) (by omega)).2 (by omega)
  have l1 := log_lt (gcd_lt (a := a) (b := b) (by omega) hm) h0 h9
  have n1 := gcd_ne (a := a) (b := b) (by omega)
  unfold w_l_low
  refine sq_i ?_
  walk_at "hw"
  refine ⟨_, _, rfl, by omega, by omega, ?_⟩
  walk_at "hw"
  rw [Int.natAbs_natCast]
  exact ⟨⟨n1, l1⟩, ⟨n1, l1⟩, by decide, h _ R.1 R.2.1 R.2.2.1 R.2.2.2⟩
theorem r_l_quotient : ∀ ss Qd Xd, c_l_quotient ss Qd Xd → w_l_quotient (endsOf Qd Xd) (startE 1 ss) := by
  rintro ss Qd Xd ⟨d, rfl, h⟩
  unfold w_l_quotient
  refine sq_i ?_
  cases d
  case tuple ds =>
    walk_at "hw"
    simp only [isTup, shp_int, eqv_int, Bool.not_true, reduceCtorEq, false_implies, true_implies, true_and]
    by_cases hl : ds.length = 2
    · match ds, hl with
      | [x, y], _ =>
        refine ⟨fun z => by simp at z, fun _ => sq_i ?_⟩
        walk_at "hw"
        refine ⟨_, rfl, ?_⟩
        have no : isQ (.tuple [x, y]) = false → Qd (.bool false) := fun z => by rw [z] at h; exact h
        refine ⟨fun hx => no (isQ_2 (.inl (by simpa using hx))), fun hx => ⟨_, rfl, fun hy => no (isQ_2 (.inr (by simpa using hy))), fun hy => ?_⟩⟩
        cases x with
        | int a =>
          cases y with
          | int b =>
            walk_at "hw"
            refine ⟨fun hb => no ?_, fun hb => ?_⟩
            · have hb := of_decide_eq_true hb
              simp only [isQ, Bool.and_eq_false_imp, decide_eq_true_eq]
              intro z; omega
            · have hb := of_decide_eq_false hb
              refine ⟨_, _, rfl, by omega, by omega, ?_⟩
              rw [Int.natAbs_natCast]
              simp only [shp_int, eqv_int, true_and]
              have e : isQ (.tuple [.int a, .int b]) = decide (((Nat.gcd a.natAbs b.natAbs : Nat) : Int) = 1) := by
                simp only [isQ]
                rw [Bool.eq_iff_iff]
                simp only [Bool.and_eq_true, decide_eq_true_eq]
                omega
              rw [e] at h
              exact h
          | _ => cases hy
        | _ => cases hx
    · refine ⟨fun _ => by rw [isQ_n hl] at h; exact h, fun z => ?_⟩
      have : (((ds.length : Nat) : Int) = 2) := by simpa using z
      omega
  all_goals (walk_at "hw"; simp only [isTup, Bool.not_false, true_implies, reduceCtorEq, false_implies, and_true]; exact h)
theorem low_i {a b : Int} {n : Nat} {Q : DQ} {X : XQ} (hb : 1 ≤ b) (bt : Bt n (a, b)) (h0 : 0 < n) (h9 : n ≤ 9000) (h : ∀ s, IsQuo s → Bt n s → Q (dq s)) : c_l_low [.val (.int a), .val (.int b)] Q X :=
  ⟨a, b, n, rfl, hb, bt.2, h0, h9, fun s hs _ h1 h2 => h s hs (Eqq.bt h1 h2 bt)⟩
theorem tk_i {Q : DQ} {X : XQ} {m : Int} (h0 : 0 < m) (h1 : m < 1073741824) (h : ∀ r : Int, 0 ≤ r → r < m → Q (.int r)) : c_l_take [.pool, .val (.int m)] Q X := ⟨m, rfl, h0, h1, h⟩
theorem r_l_small : ∀ ss Qd Xd, c_l_small ss Qd Xd → w_l_small (endsOf Qd Xd) (startE 1 ss) := by
  rintro ss Qd Xd ⟨rfl, h⟩
  unfold w_l_small
  walk_at "hw"
  refine tk_i (by decide) (by decide) fun r r0 r1 => ?_
  walk_at "hw"
  refine tk_i (by decide) (by decide) fun t t0 t1 => ?_
  refine low_i (n := 4) (by omega) ⟨?_, ?_⟩ (by decide) (by decide) h
  · show (r - 12).natAbs < 2 ^ 4
    omega
  · show (1 + t).natAbs < 2 ^ 4
    omega
end K00
-- K00j
set_option Elab.async false
set_option linter.all false
set_option maxRecDepth 100000
set_option maxHeartbeats 4000000
open PySem L2
namespace K00
open Hw
local macro_rules | `(tactic| walk_at "hw") => `(tactic| simp only [wChain, wZf, wJoinRev, wIsx, wCallX, fStrI, fDivm, fMax2, wNext, wAsg, wAsgB, wAsgC, wRet, wRetN, wExp, wIfS, wFor, wWhile, wSetI, wApp, wPar, wFz, wRaise2, wTry, wVar, wC, wOp, wUn, wCB, wTup, wLst, wTst, Hw.wNot, wAnd, wOr, vAnd, vOr, vNot, wIf, wIsi, wCall, wCallK, wLc, wSeqI, wRng1, wZip, wLstOf, wSl, oNone, oSome, wRev, wIxC, wLenC, wTupC, wXf, wYes, aNil, aCons, aPool, datas, slot, startE, endsOf, setsE, wipeE, noC, noC1, bName, bTup, fAdd, fSub, fMulA, fMod, fDiv, fPow, fLt, fLe, fGt, fGe, fEq, fNe, fNeg, fIx, fGcd, fLen, fAbs, fInt1, fAll, fTupOf, fInt, fInt0, perm, List.set, List.length_cons, List.length_nil, List.replicate, List.cons_append, List.nil_append, List.map_cons, List.map_nil, Nat.reduceAdd, Nat.reduceSub, Nat.zero_add, Nat.sub_self, Option.map, Option.some.injEq, List.filterMap_cons, List.filterMap_nil, List.getElem?_cons_zero, List.getElem?_cons_succ, at0, at1, at2, true_and, and_true, eq_self, true_implies, reduceCtorEq, false_implies, implies_true, Bool.not_true, Bool.not_false, exists_eq_left, exists_eq_left'])
theorem ixN_ok {n : Nat} {r : Int} (h0 : 0 ≤ r) (h1 : r < n) : ixN n r = some r.toNat := by
  unfold ixN
  rw [if_pos h0, if_pos h1]
theorem at_i {ds : List PyData} {r : Int} {Q : DQ} (h0 : 0 ≤ r) (h1 : r < ds.length) (h : ∀ d ∈ ds, Q d) : ∃ d, atI ds r = some d ∧ Q d := by
  have hl : r.toNat < ds.length := by omega
  refine ⟨ds[r.toNat], ?_, h _ (List.getElem_mem hl)⟩
  unfold atI
  rw [ixN_ok h0 h1]
  exact List.getElem?_eq_getElem hl
theorem r_l_great : ∀ ss Qd Xd, c_l_great ss Qd Xd → w_l_great (endsOf Qd Xd) (startE 3 ss) := by
  rintro ss Qd Xd ⟨rfl, h⟩
  unfold w_l_great
  refine sq_i ?_
  walk_at "hw"
  refine ⟨by decide, by decide, by decide, by decide, by decide, sq_i ?_⟩
  walk_at "hw"
  refine tk_i (by decide) (by decide) fun r r0 r1 => at_i r0 (by simpa using r1) fun d hd => ?_
  have : d ∈ [(1000000000 : Int), 100000000000000000000, 10000000000000000000000000000000000000000, 100000000000000000000000000000000000000000000000000000000000].map PyData.int := hd
  obtain ⟨u, hu, rfl⟩ := List.mem_map.1 this
  have hu1 : 1000000000 ≤ u ∧ u ≤ 100000000000000000000000000000000000000000000000000000000000 := by
    have : ∀ u ∈ [(1000000000 : Int), 100000000000000000000, 10000000000000000000000000000000000000000, 100000000000000000000000000000000000000000000000000000000000], 1000000000 ≤ u ∧ u ≤ 100000000000000000000000000000000000000000000000000000000000 := by decide
    exact this u hu
  refine tk_i (by decide) (by decide) fun t t0 t1 => ?_
  have bd : ∀ n : Int, n.natAbs ≤ 100000000000000000000000000000000000000000000000000000001000 → n.natAbs < 2 ^ 200 := fun n hn => Nat.lt_of_le_of_lt hn (by decide)
  refine sq_i ?_
  walk_at "hw"
  refine tk_i (by decide) (by decide) fun z z0 z1 => ?_
  simp only [shp_int, eqv_int, true_and]
  refine ⟨fun _ => h _ (by omega) (bd _ (by omega)), fun _ => h _ (by omega) (bd _ (by omega))⟩
theorem val_int {i : Int} (h : i.natAbs < 2 ^ 200) : Val (.int i) where
  int := fun j e => by cases e; exact h
  quo := fun q e => by cases e
  len := Nat.zero_le _
theorem val_quo {q : Qo} (h : Bt 200 q) : Val (dq q) where
  int := fun j e => by cases e
  quo := fun r e _ => by cases dq_inj e; exact h
  len := by show 2 ≤ 100; decide
theorem val_two {a b : Int} (h1 : a.natAbs < 2 ^ 200) (h2 : b.natAbs < 2 ^ 200) : Val (.tuple [.int a, .int b]) := val_quo (q := (a, b)) ⟨h1, h2⟩
theorem val_odd {d : PyData} (h : isQ d = false ∧ isI d = false ∧ dlen d ≤ 100) : Val d where
  int := fun j e => by rw [e] at h; cases h.2.1
  quo := fun q e iq => by rw [e, isQ_dq iq] at h; cases h.1
  len := h.2.2
theorem r_l_value : ∀ ss Qd Xd, c_l_value ss Qd Xd → w_l_value (endsOf Qd Xd) (startE 5 ss) := by
  rintro ss Qd Xd ⟨rfl, h⟩
  unfold w_l_value
  refine sq_i ?_
  walk_at "hw"
  refine tk_i (by decide) (by decide) fun r r0 r1 => ?_
  refine sq_i ?_
  walk_at "hw"
  refine ⟨fun _ => ⟨rfl, fun s hs bs => h _ (val_quo (bs.mono (by decide)))⟩, fun _ => sq_i ?_⟩
  walk_at "hw"
  simp only [shp_int, eqv_int, true_and]
  refine ⟨fun _ => ⟨rfl, fun n n0 n1 => ⟨rfl, fun m m0 m1 => ?_⟩⟩, fun _ => sq_i ?_⟩
  · walk_at "hw"
    refine low_i (n := 200) (by omega) ⟨n1, by rw [Int.natAbs_natCast]; exact m1⟩ (by decide) (by decide) fun s hs bs => h _ (val_quo bs)
  walk_at "hw"
  simp only [shp_int, eqv_int, true_and]
  refine ⟨fun _ => tk_i (by decide) (by decide) fun t t0 t1 => ?_, fun _ => sq_i ?_⟩
  · walk_at "hw"
    refine tk_i (by decide) (by decide) fun u u0 u1 => ?_
    walk_at "hw"
    exact ⟨by decide, h _ (val_two (Nat.lt_of_le_of_lt (m := 10) (by omega) (by decide)) (Nat.lt_of_le_of_lt (m := 10) (by omega) (by decide)))⟩
  walk_at "hw"
  simp only [shp_int, eqv_int, true_and]
  refine ⟨fun _ => ?_, fun _ => sq_i ?_⟩
  · simp only [Nat.reduceLeDiff, true_and]
    refine tk_i (by decide) (by decide) fun t t0 t1 => at_i t0 (by simpa using t1) fun d hd => h d ?_
    have z : ∀ d ∈ [PyData.tuple [PyData.bool true, PyData.int 1], PyData.tuple [PyData.int 1, PyData.bool true], PyData.tuple [PyData.bool false, PyData.int 1],
      PyData.tuple [PyData.int 0, PyData.bool true], PyData.tuple [PyData.int 2, PyData.bool true], PyData.tuple [PyData.bool true, PyData.int 2]], isQ d = false ∧ isI d = false ∧ dlen d ≤ 100 := by decide
    exact val_odd (z d hd)
  walk_at "hw"
  simp only [shp_int, eqv_int, true_and]
  refine ⟨fun _ => sq_i ?_, fun _ => sq_i ?_⟩
  · walk_at "hw"
    simp only [Nat.reduceLeDiff, Nat.zero_le, true_and]
    refine tk_i (by decide) (by decide) fun t t0 t1 => at_i t0 (by simpa using t1) fun d hd => h d ?_
    have z : ∀ d ∈ [PyData.none, PyData.str (Str.ofString ""), PyData.str (Str.ofString "1/2"), PyData.str (Str.ofString "1"), PyData.list [PyData.int 1, PyData.int 2], PyData.tuple [PyData.int 1],
      PyData.tuple [PyData.int 1, PyData.int 2, PyData.int 3], PyData.tuple [], PyData.tuple [PyData.tuple [PyData.int 1, PyData.int 2]], PyData.tuple [PyData.int 1, PyData.none],
      PyData.tuple [PyData.str (Str.ofString "1"), PyData.int 2], PyData.tuple [PyData.int 1, PyData.str (Str.ofString "2")], PyData.bool true, PyData.bool false], isQ d = false ∧ isI d = false ∧ dlen d ≤ 100 := by decide
    exact val_odd (z d hd)
  walk_at "hw"
  refine ⟨fun _ => tk_i (by decide) (by decide) fun t t0 t1 => h _ (val_int (Nat.lt_of_le_of_lt (m := 10) (by omega) (by decide))), fun _ => sq_i ?_⟩
  walk_at "hw"
  simp only [shp_int, eqv_int, true_and]
  refine ⟨fun _ => ⟨rfl, fun n n0 n1 => h _ (val_int n1)⟩, fun _ => sq_i ?_⟩
  walk_at "hw"
  simp only [shp_int, eqv_int, true_and]
  refine ⟨fun _ => ⟨by decide, h _ (val_two (by decide) (by decide))⟩, fun _ => sq_i ?_⟩
  walk_at "hw"
  simp only [shp_int, eqv_int, true_and]
  refine ⟨fun _ => ⟨rfl, fun s hs bs => h _ (val_odd ⟨rfl, rfl, Nat.zero_le _⟩)⟩, fun _ => sq_i ?_⟩
  walk_at "hw"
  refine tk_i (by decide) (by decide) fun t t0 t1 => sq_i ?_
  walk_at "hw"
  refine ⟨rfl, fun s hs bs => ?_⟩
  refine Exists.intro _ (And.intro rfl ?_)
  refine And.intro (.inr (.inr ⟨by omega, by omega⟩)) ?_
  refine Exists.intro _ (And.intro rfl ?_)
  refine And.intro (.inr (.inr ⟨by omega, by omega⟩)) ?_
  have t4 : (1 + t).natAbs < 2 ^ 4 := by omega
  have m1 := imul_bt bs.1 t4
  have m2 := imul_bt bs.2 t4
  exact ⟨by decide, h _ (val_two (lt_pow_mono m1 (by decide)) (lt_pow_mono m2 (by decide)))⟩
end K00
-- K00k
set_option Elab.async false
set_option linter.all false
set_option maxRecDepth 100000
set_option maxHeartbeats 4000000
open PySem L2
namespace K00
open Hw
local macro_rules | `(tactic| walk_at "hw") => `(tactic| simp only [wChain, wZf, wJoinRev, wIsx, wCallX, fStrI, fDivm, fMax2, wNext, wAsg, wAsgB, wAsgC, wRet, wRetN, wExp, wIfS, wFor, wWhile, wSetI, wApp, wPar, wFz, wRaise2, wTry, wVar, wC, wOp, wUn, wCB, wTup, wLst, wTst, Hw.wNot, wAnd, wOr, vAnd, vOr, vNot, wIf, wIsi, wCall, wCallK, wLc, wSeqI, wRng1, wZip, wLstOf, wSl, oNone, oSome, wRev, wIxC, wLenC, wTupC, wXf, wYes, aNil, aCons, aPool, datas, slot, startE, endsOf, setsE, wipeE, noC, noC1, bName, bTup, fAdd, fSub, fMulA, fMod, fDiv, fPow, fLt, fLe, fGt, fGe, fEq, fNe, fNeg, fIx, fGcd, fLen, fAbs, fInt1, fAll, fTupOf, fInt, fInt0, perm, List.set, List.length_cons, List.length_nil, List.replicate, List.cons_append, List.nil_append, List.map_cons, List.map_nil, Nat.reduceAdd, Nat.reduceSub, Nat.zero_add, Nat.sub_self, Option.map, Option.some.injEq, List.filterMap_cons, List.filterMap_nil, List.getElem?_cons_zero, List.getElem?_cons_succ, at0, at1, at2, true_and, and_true, eq_self, true_implies, reduceCtorEq, false_implies, implies_true, Bool.not_true, Bool.not_false, exists_eq_left, exists_eq_left'])
theorem eqv_bool (a : Bool) : PyData.eqv (.bool a) (.bool a) = true := by simp [PyData.eqv]
theorem eqv_str (z : Str) : PyData.eqv (.str z) (.str z) = true := by simp [PyData.eqv]
theorem r_l_like0 : ∀ ss Qd Xd, c_l_like0 ss Qd Xd → w_l_like0 (endsOf Qd Xd) (startE 3 ss) := by
  rintro ss Qd Xd ⟨d, rfl, hd, h⟩
  unfold w_l_like0
  refine sq_i ?_
  rcases hd with ⟨b, rfl⟩ | ⟨i, rfl⟩ | ⟨z, rfl, hz⟩
  · walk_at "hw"
    refine ⟨fun z => Bool.noConfusion z, fun _ => sq_i ?_⟩
    walk_at "hw"
    refine ⟨fun _ => ⟨fun _ => ?_, fun z => Bool.noConfusion z⟩, fun z => Bool.noConfusion z⟩
    rw [eqv_bool]
    exact ⟨rfl, rfl, h⟩
  · walk_at "hw"
    refine ⟨fun z => Bool.noConfusion z, fun _ => sq_i ?_⟩
    walk_at "hw"
    refine ⟨fun z => Bool.noConfusion z, fun _ => sq_i ?_⟩
    walk_at "hw"
    refine ⟨fun _ => ⟨_, rfl, fun _ => ?_, fun z => Bool.noConfusion z⟩, fun z => Bool.noConfusion z⟩
    simp only [shp_int, eqv_int, true_and, decide_true]
    exact h
  · walk_at "hw"
    refine ⟨fun z => Bool.noConfusion z, fun _ => sq_i ?_⟩
    walk_at "hw"
    refine ⟨fun z => Bool.noConfusion z, fun _ => sq_i ?_⟩
    walk_at "hw"
    refine ⟨fun z => Bool.noConfusion z, fun _ => ?_⟩
    refine ⟨fun _ => ?_, fun z => Bool.noConfusion z⟩
    rw [eqv_str]
    exact ⟨hz, hz, h⟩
theorem atI_get {ds : List PyData} {i : Nat} {d : PyData} (h : ds[i]? = some d) : atI ds (i : Nat) = some d := by
  unfold atI
  rw [ixN_ok (by omega) (by have := (List.getElem?_eq_some_iff.mp h).1; omega)]
  simpa using h
theorem rg_get {n i : Nat} {d : PyData} (h : (rgD 0 n)[i]? = some d) : i < n ∧ d = .int (i : Nat) := by
  have l := (List.getElem?_eq_some_iff.mp h).1
  rw [rgD_len] at l
  rw [rgD_get l] at h
  refine ⟨l, ?_⟩
  have := Option.some.inj h
  rw [← this]; simp
theorem r_l_like1 : ∀ ss Qd Xd, c_l_like1 ss Qd Xd → w_l_like1 (endsOf Qd Xd) (startE 3 ss) := by
  rintro ss Qd Xd ⟨ds, rfl, hl, hd, h⟩
  unfold w_l_like1
  refine sq_i ?_
  walk_at "hw"
  refine ⟨fun _ => sq_i ?_, fun z => Bool.noConfusion z⟩
  walk_at "hw"
  simp only [isTup, shp_int, eqv_int, Bool.not_true, reduceCtorEq, false_implies, true_implies, true_and, decide_true]
  refine sq_i ?_
  walk_at "hw"
  refine ⟨by omega, by omega, fun i env => ∃ c : Sl, env = [.val (.tuple ds), .val (.tuple ds), c], ⟨_, rfl⟩, ?_, fun _ _ => h⟩
  rintro i d env hd0 ⟨c, rfl⟩
  obtain ⟨hi0, rfl⟩ := rg_get hd0
  have hi : i < ds.length := by simpa using hi0
  have e : ds[i]? = some ds[i] := List.getElem?_eq_getElem hi
  walk_at "hw"
  refine ⟨_, atI_get e, _, atI_get e, _, rfl, hd _ (List.mem_of_getElem? e), ?_⟩
  exact ⟨fun z => Bool.noConfusion z, fun _ => ⟨_, rfl⟩⟩
theorem r_l_kin (C : Addr) : ∀ (a : Addr) (d : Option Addr) (x : XD) (Qd : DQ), c_l_kin C x Qd → w_l_kin C a d (endsOf Qd (fun _ => False)) (.exc a (.ref C) d x :: List.replicate 0 .un) := by
  rintro a d x Qd ⟨hC, h⟩
  unfold w_l_kin
  refine sq_i ?_
  walk_at "hw"
  refine ⟨hC, hC, hC, sq_i ?_⟩
  walk_at "hw"
  exact ⟨hC, hC, hC, hC, h⟩
end K00
-- K00l
set_option Elab.async false
set_option linter.all false
set_option maxRecDepth 100000
set_option maxHeartbeats 4000000
open PySem L2
namespace K00
open Hw
local macro_rules | `(tactic| walk_at "hw") => `(tactic| simp only [wChain, wZf, wJoinRev, wIsx, wCallX, fStrI, fDivm, fMax2, wNext, wAsg, wAsgB, wAsgC, wRet, wRetN, wExp, wIfS, wFor, wWhile, wSetI, wApp, wPar, wFz, wRaise2, wTry, wVar, wC, wOp, wUn, wCB, wTup, wLst, wTst, Hw.wNot, wAnd, wOr, vAnd, vOr, vNot, wIf, wIsi, wCall, wCallK, wLc, wSeqI, wRng1, wZip, wLstOf, wSl, oNone, oSome, wRev, wIxC, wLenC, wTupC, wXf, wYes, aNil, aCons, aPool, datas, slot, startE, endsOf, setsE, wipeE, noC, noC1, bName, bTup, fAdd, fSub, fMulA, fMod, fDiv, fPow, fLt, fLe, fGt, fGe, fEq, fNe, fNeg, fIx, fGcd, fLen, fAbs, fInt1, fAll, fTupOf, fInt, fInt0, perm, List.set, List.length_cons, List.length_nil, List.replicate, List.cons_append, List.nil_append, List.map_cons, List.map_nil, Nat.reduceAdd, Nat.reduceSub, Nat.zero_add, Nat.sub_self, Option.map, Option.some.injEq, List.filterMap_cons, List.filterMap_nil, List.getElem?_cons_zero, List.getElem?_cons_succ, at0, at1, at2, true_and, and_true, eq_self, true_implies, reduceCtorEq, false_implies, implies_true, Bool.not_true, Bool.not_false, exists_eq_left, exists_eq_left'])
local macro_rules | `(tactic| walk_at "ask_x") => `(tactic| (
  intro w hw
  refine ⟨rfl, fun a c dd => sq_i ?_⟩
  walk_at "hw"
  exact ⟨rfl, fun z => Bool.noConfusion z, fun _ => ⟨rfl, _, rfl, rfl, _, rfl, by decide, hw⟩⟩))
def CMono (c : Ct) : Prop := ∀ ss (Q Q' : DQ) (X X' : XQ), (∀ d, Q d → Q' d) → (∀ x, X x → X' x) → c ss Q X → c ss Q' X'
theorem cm_two {C : Addr} {P : Qo → Qo → DQ → Prop} (hP : ∀ q r (Q Q' : DQ), (∀ d, Q d → Q' d) → P q r Q → P q r Q') : CMono (cTwo C P) := by
  rintro ss Q Q' X X' hQ hX ⟨d, e, rfl, h1, h2, h3⟩
  exact ⟨d, e, rfl, fun z => hX _ (h1 z), fun z y => hX _ (h2 z y), fun q r a b c d => hP q r Q Q' hQ (h3 q r a b c d)⟩
theorem cm_plus {C : Addr} : CMono (c_plus C) := cm_two fun q r Q Q' hQ ⟨m, n, a, b, c, d, e, f⟩ => ⟨m, n, a, b, c, d, e, fun s x y z => hQ _ (f s x y z)⟩
theorem cm_minus {C : Addr} : CMono (c_minus C) := cm_two fun q r Q Q' hQ ⟨m, n, a, b, c, d, e, f⟩ => ⟨m, n, a, b, c, d, e, fun s x y z => hQ _ (f s x y z)⟩
theorem cm_times {C : Addr} : CMono (c_times C) := cm_two fun q r Q Q' hQ ⟨m, n, a, b, c, d, e, f⟩ => ⟨m, n, a, b, c, d, e, fun s x y z => hQ _ (f s x y z)⟩
theorem cm_less {C : Addr} : CMono (c_is_less C) := cm_two fun q r Q Q' hQ ⟨m, a, b, c, d, e⟩ => ⟨m, a, b, c, d, hQ _ e⟩
theorem cm_over {C : Addr} : CMono (c_over C) := by
  rintro ss Q Q' X X' hQ hX ⟨d, e, rfl, h1, h2, h3⟩
  refine ⟨d, e, rfl, fun z => hX _ (h1 z), fun z y => hX _ (h2 z y), fun q r a b c d => ?_⟩
  obtain ⟨h4, h5⟩ := h3 q r a b c d
  refine ⟨fun z => hX _ (h4 z), fun z => ?_⟩
  obtain ⟨m, n, a, b, c, d, e, f⟩ := h5 z
  exact ⟨m, n, a, b, c, d, e, fun s x y z => hQ _ (f s x y z)⟩
theorem cm_many {C : Addr} {l : Int} : CMono (cMany C l) := by
  rintro ss Q Q' X X' hQ hX ⟨m, d, rfl, h0, h1, h2⟩
  exact ⟨m, d, rfl, h0, fun z => hX _ (h1 z), fun n a b => hQ _ (h2 n a b)⟩
theorem cm_place {C : Addr} : CMono (c_is_place C) := by
  rintro ss Q Q' X X' hQ hX ⟨m, d, rfl, h1, h2⟩
  exact ⟨m, d, rfl, fun z => hX _ (h1 z), fun n a b => hQ _ (h2 n a b)⟩
theorem cm_side {C : Addr} {k : Int} : CMono (cSide C k) := by
  rintro ss Q Q' X X' hQ hX ⟨d, rfl, h1, h2⟩
  exact ⟨d, rfl, fun z => hX _ (h1 z), fun i a b c => hQ _ (h2 i a b c)⟩
theorem cm_letter {C : Addr} : CMono (c_place_letter C) := by
  rintro ss Q Q' X X' hQ hX ⟨d, rfl, h1, h2, h3⟩
  exact ⟨d, rfl, fun z => hX _ (h1 z), fun i a b c => hQ _ (h2 i a b c), fun n a => ⟨(h3 n a).1, hQ _ (h3 n a).2⟩⟩
theorem r_l_two (C : Addr) : ∀ ss Qd Xd, c_l_two C ss Qd Xd → w_l_two C (endsOf Qd Xd) (startE 5 ss) := by
  rintro ss Qd Xd ⟨k, l, r, nm, rfl, h⟩
  unfold w_l_two
  walk_at "hw"
  have hQ : ∀ d, Qd (told d) → 2 ≤ 16777216 ∧ Qd (.tuple [.str "told", d]) := fun d h => ⟨by decide, h⟩
  have hX : ∀ (P : XD → Prop), (∀ w, Qd (ref3 w) → P (nu C w)) → ∀ x : XD, (∃ w, x = nu C w ∧ Qd (ref3 w)) → P x := by
    rintro P hP x ⟨w, rfl, h⟩
    exact hP w h
  refine sq_i ?_
  walk_at "hw"
  simp only [shp_int, eqv_int, true_and]
  rcases h with ⟨rfl, h⟩ | ⟨rfl, h⟩ | ⟨rfl, h⟩ | ⟨rfl, h⟩ | ⟨rfl, h⟩ | ⟨rfl, h⟩ | ⟨rfl, h⟩ | ⟨rfl, h⟩
  · refine ⟨fun _ => ⟨fun _ => cm_plus _ _ _ _ _ hQ (hX _ ?_) h, fun _ => cm_plus _ _ _ _ _ hQ (hX _ ?_) h⟩, fun z => by simp at z⟩
    · walk_at "ask_x"
    · walk_at "ask_x"
  · refine ⟨fun z => by simp at z, fun _ => sq_i ?_⟩
    walk_at "hw"
    simp only [shp_int, eqv_int, true_and]
    refine ⟨fun _ => ⟨fun _ => cm_minus _ _ _ _ _ hQ (hX _ ?_) h, fun _ => cm_minus _ _ _ _ _ hQ (hX _ ?_) h⟩, fun z => by simp at z⟩
    · walk_at "ask_x"
    · walk_at "ask_x"
  · refine ⟨fun z => by simp at z, fun _ => sq_i ?_⟩
    walk_at "hw"
    simp only [shp_int, eqv_int, true_and]
    refine ⟨fun z => by simp at z, fun _ => sq_i ?_⟩
    walk_at "hw"
    simp only [shp_int, eqv_int, true_and]
    refine ⟨fun _ => ⟨fun _ => cm_times _ _ _ _ _ hQ (hX _ ?_) h, fun _ => cm_times _ _ _ _ _ hQ (hX _ ?_) h⟩, fun z => by simp at z⟩
    · walk_at "ask_x"
    · walk_at "ask_x"
  · refine ⟨fun z => by simp at z, fun _ => sq_i ?_⟩
    walk_at "hw"
    simp only [shp_int, eqv_int, true_and]
    refine ⟨fun z => by simp at z, fun _ => sq_i ?_⟩
    walk_at "hw"
    simp only [shp_int, eqv_int, true_and]
    refine ⟨fun z => by simp at z, fun _ => sq_i ?_⟩
    walk_at "hw"
    simp only [shp_int, eqv_int, true_and]
    refine ⟨fun _ => ⟨fun _ => cm_over _ _ _ _ _ hQ (hX _ ?_) h, fun _ => cm_over _ _ _ _ _ hQ (hX _ ?_) h⟩, fun z => by simp at z⟩
    · walk_at "ask_x"
    · walk_at "ask_x"
  · refine ⟨fun z => by simp at z, fun _ => sq_i ?_⟩
    walk_at "hw"
    simp only [shp_int, eqv_int, true_and]
    refine ⟨fun z => by simp at z, fun _ => sq_i ?_⟩
    walk_at "hw"
    simp only [shp_int, eqv_int, true_and]
    refine ⟨fun z => by simp at z, fun _ => sq_i ?_⟩
    walk_at "hw"
    simp only [shp_int, eqv_int, true_and]
    refine ⟨fun z => by simp at z, fun _ => sq_i ?_⟩
    walk_at "hw"
    simp only [shp_int, eqv_int, true_and]
    refine ⟨fun _ => ⟨fun _ => cm_less _ _ _ _ _ hQ (hX _ ?_) h, fun _ => cm_less _ _ _ _ _ hQ (hX _ ?_) h⟩, fun z => by simp at z⟩
    · walk_at "ask_x"
    · walk_at "ask_x"
  · refine ⟨fun z => by simp at z, fun _ => sq_i ?_⟩
    walk_at "hw"
    simp only [shp_int, eqv_int, true_and]
    refine ⟨fun z => by simp at z, fun _ => sq_i ?_⟩
    walk_at "hw"
    simp only [shp_int, eqv_int, true_and]
    refine ⟨fun z => by simp at z, fun _ => sq_i ?_⟩
    walk_at "hw"
    simp only [shp_int, eqv_int, true_and]
    refine ⟨fun z => by simp at z, fun _ => sq_i ?_⟩
    walk_at "hw"
    simp only [shp_int, eqv_int, true_and]
    refine ⟨fun z => by simp at z, fun _ => sq_i ?_⟩
    walk_at "hw"
    simp only [shp_int, eqv_int, true_and]
    refine ⟨fun _ => ⟨fun _ => cm_many _ _ _ _ _ hQ (hX _ ?_) h, fun _ => cm_many _ _ _ _ _ hQ (hX _ ?_) h⟩, fun z => by simp at z⟩
    · walk_at "ask_x"
    · walk_at "ask_x"
  · refine ⟨fun z => by simp at z, fun _ => sq_i ?_⟩
    walk_at "hw"
    simp only [shp_int, eqv_int, true_and]
    refine ⟨fun z => by simp at z, fun _ => sq_i ?_⟩
    walk_at "hw"
    simp only [shp_int, eqv_int, true_and]
    refine ⟨fun z => by simp at z, fun _ => sq_i ?_⟩
    walk_at "hw"
    simp only [shp_int, eqv_int, true_and]
    refine ⟨fun z => by simp at z, fun _ => sq_i ?_⟩
    walk_at "hw"
    simp only [shp_int, eqv_int, true_and]
    refine ⟨fun z => by simp at z, fun _ => sq_i ?_⟩
    walk_at "hw"
    simp only [shp_int, eqv_int, true_and]
    refine ⟨fun z => by simp at z, fun _ => sq_i ?_⟩
    walk_at "hw"
    simp only [shp_int, eqv_int, true_and]
    refine ⟨fun _ => ⟨fun _ => cm_many _ _ _ _ _ hQ (hX _ ?_) h, fun _ => cm_many _ _ _ _ _ hQ (hX _ ?_) h⟩, fun z => by simp at z⟩
    · walk_at "ask_x"
    · walk_at "ask_x"
  · refine ⟨fun z => by simp at z, fun _ => sq_i ?_⟩
    walk_at "hw"
    simp only [shp_int, eqv_int, true_and]
    refine ⟨fun z => by simp at z, fun _ => sq_i ?_⟩
    walk_at "hw"
    simp only [shp_int, eqv_int, true_and]
    refine ⟨fun z => by simp at z, fun _ => sq_i ?_⟩
    walk_at "hw"
    simp only [shp_int, eqv_int, true_and]
    refine ⟨fun z => by simp at z, fun _ => sq_i ?_⟩
    walk_at "hw"
    simp only [shp_int, eqv_int, true_and]
    refine ⟨fun z => by simp at z, fun _ => sq_i ?_⟩
    walk_at "hw"
    simp only [shp_int, eqv_int, true_and]
    refine ⟨fun z => by simp at z, fun _ => sq_i ?_⟩
    walk_at "hw"
    simp only [shp_int, eqv_int, true_and]
    refine ⟨fun z => by simp at z, fun _ => ?_⟩
    refine ⟨fun _ => cm_place _ _ _ _ _ hQ (hX _ ?_) h, fun _ => cm_place _ _ _ _ _ hQ (hX _ ?_) h⟩
    · walk_at "ask_x"
    · walk_at "ask_x"
theorem r_l_single (C : Addr) : ∀ ss Qd Xd, c_l_single C ss Qd Xd → w_l_single C (endsOf Qd Xd) (startE 4 ss) := by
  rintro ss Qd Xd ⟨k, v, nm, rfl, h⟩
  unfold w_l_single
  walk_at "hw"
  have hQ : ∀ d, Qd (told d) → 2 ≤ 16777216 ∧ Qd (.tuple [.str "told", d]) := fun d h => ⟨by decide, h⟩
  have hX : ∀ (P : XD → Prop), (∀ w, Qd (ref3 w) → P (nu C w)) → ∀ x : XD, (∃ w, x = nu C w ∧ Qd (ref3 w)) → P x := by
    rintro P hP x ⟨w, rfl, h⟩
    exact hP w h
  refine sq_i ?_
  walk_at "hw"
  simp only [shp_int, eqv_int, true_and]
  rcases h with ⟨rfl, h⟩ | ⟨rfl, h⟩ | ⟨rfl, h⟩ | ⟨rfl, h⟩ | ⟨rfl, h⟩ | ⟨rfl, h⟩
  · refine ⟨fun _ => ⟨fun _ => ⟨_, rfl, hQ _ h⟩, fun _ => ⟨_, rfl, hQ _ h⟩⟩, fun z => by simp at z⟩
  · refine ⟨fun z => by simp at z, fun _ => sq_i ?_⟩
    walk_at "hw"
    simp only [shp_int, eqv_int, true_and]
    refine ⟨fun _ => ⟨fun _ => ⟨_, rfl, hQ _ h⟩, fun _ => ⟨_, rfl, hQ _ h⟩⟩, fun z => by simp at z⟩
  · refine ⟨fun z => by simp at z, fun _ => sq_i ?_⟩
    walk_at "hw"
    simp only [shp_int, eqv_int, true_and]
    refine ⟨fun z => by simp at z, fun _ => sq_i ?_⟩
    walk_at "hw"
    simp only [shp_int, eqv_int, true_and]
    refine ⟨fun _ => ⟨fun _ => ⟨_, rfl, hQ _ h⟩, fun _ => ⟨_, rfl, hQ _ h⟩⟩, fun z => by simp at z⟩
  · refine ⟨fun z => by simp at z, fun _ => sq_i ?_⟩
    walk_at "hw"
    simp only [shp_int, eqv_int, true_and]
    refine ⟨fun z => by simp at z, fun _ => sq_i ?_⟩
    walk_at "hw"
    simp only [shp_int, eqv_int, true_and]
    refine ⟨fun z => by simp at z, fun _ => sq_i ?_⟩
    walk_at "hw"
    simp only [shp_int, eqv_int, true_and]
    refine ⟨fun _ => ⟨fun _ => cm_side _ _ _ _ _ hQ (hX _ ?_) h, fun _ => cm_side _ _ _ _ _ hQ (hX _ ?_) h⟩, fun z => by simp at z⟩
    · walk_at "ask_x"
    · walk_at "ask_x"
  · refine ⟨fun z => by simp at z, fun _ => sq_i ?_⟩
    walk_at "hw"
    simp only [shp_int, eqv_int, true_and]
    refine ⟨fun z => by simp at z, fun _ => sq_i ?_⟩
    walk_at "hw"
    simp only [shp_int, eqv_int, true_and]
    refine ⟨fun z => by simp at z, fun _ => sq_i ?_⟩
    walk_at "hw"
    simp only [shp_int, eqv_int, true_and]
    refine ⟨fun z => by simp at z, fun _ => sq_i ?_⟩
    walk_at "hw"
    simp only [shp_int, eqv_int, true_and]
    refine ⟨fun _ => ⟨fun _ => cm_side _ _ _ _ _ hQ (hX _ ?_) h, fun _ => cm_side _ _ _ _ _ hQ (hX _ ?_) h⟩, fun z => by simp at z⟩
    · walk_at "ask_x"
    · walk_at "ask_x"
  · refine ⟨fun z => by simp at z, fun _ => sq_i ?_⟩
    walk_at "hw"
    simp only [shp_int, eqv_int, true_and]
    refine ⟨fun z => by simp at z, fun _ => sq_i ?_⟩
    walk_at "hw"
    simp only [shp_int, eqv_int, true_and]
    refine ⟨fun z => by simp at z, fun _ => sq_i ?_⟩
    walk_at "hw"
    simp only [shp_int, eqv_int, true_and]
    refine ⟨fun z => by simp at z, fun _ => sq_i ?_⟩
    walk_at "hw"
    simp only [shp_int, eqv_int, true_and]
    refine ⟨fun z => by simp at z, fun _ => ?_⟩
    refine ⟨fun _ => cm_letter _ _ _ _ _ hQ (hX _ ?_) h, fun _ => cm_letter _ _ _ _ _ hQ (hX _ ?_) h⟩
    · walk_at "ask_x"
    · walk_at "ask_x"
end K00
-- K00n
set_option Elab.async false
set_option linter.all false
set_option maxRecDepth 100000
set_option maxHeartbeats 4000000
open PySem L2
namespace K00
open Hw
local macro_rules | `(tactic| walk_at "hw") => `(tactic| simp only [wChain, wZf, wJoinRev, wIsx, wCallX, fStrI, fDivm, fMax2, wNext, wAsg, wAsgB, wAsgC, wRet, wRetN, wExp, wIfS, wFor, wWhile, wSetI, wApp, wPar, wFz, wRaise2, wTry, wVar, wC, wOp, wUn, wCB, wTup, wLst, wTst, Hw.wNot, wAnd, wOr, vAnd, vOr, vNot, wIf, wIsi, wCall, wCallK, wLc, wSeqI, wRng1, wZip, wLstOf, wSl, oNone, oSome, wRev, wIxC, wLenC, wTupC, wXf, wYes, aNil, aCons, aPool, datas, slot, startE, endsOf, setsE, wipeE, noC, noC1, bName, bTup, fAdd, fSub, fMulA, fMod, fDiv, fPow, fLt, fLe, fGt, fGe, fEq, fNe, fNeg, fIx, fGcd, fLen, fAbs, fInt1, fAll, fTupOf, fInt, fInt0, perm, List.set, List.length_cons, List.length_nil, List.replicate, List.cons_append, List.nil_append, List.map_cons, List.map_nil, Nat.reduceAdd, Nat.reduceSub, Nat.zero_add, Nat.sub_self, Option.map, Option.some.injEq, List.filterMap_cons, List.filterMap_nil, List.getElem?_cons_zero, List.getElem?_cons_succ, at0, at1, at2, true_and, and_true, eq_self, true_implies, reduceCtorEq, false_implies, implies_true, Bool.not_true, Bool.not_false, exists_eq_left, exists_eq_left'])
theorem all_take {ds : List PyData} {f : PyData → Bool} {i : Nat} {d : PyData} (h : ds[i]? = some d) : (ds.take (i + 1)).all f = ((ds.take i).all f && f d) := by
  rw [List.take_add_one, h]
  simp
theorem r_l_all_of : ∀ ss Qd Xd, c_l_all_of ss Qd Xd → w_l_all_of (endsOf Qd Xd) (startE 4 ss) := by
  rintro ss Qd Xd ⟨n, l, d, rfl, h⟩
  unfold w_l_all_of
  refine sq_i ?_
  cases d
  case tuple ds =>
    walk_at "hw"
    simp only [isTup, shp_int, eqv_int, Bool.not_true, reduceCtorEq, false_implies, true_implies, true_and]
    refine ⟨fun hz => ?_, fun hz => sq_i ?_⟩
    · have e : decide (((dlen (.tuple ds) : Nat) : Int) = n) = false := by
        refine decide_eq_false fun z => ?_
        have z : ((ds.length : Nat) : Int) = n := z
        rw [decide_eq_true z] at hz
        exact Bool.noConfusion hz
      rw [e, Bool.and_false] at h
      exact h
    · have e : decide (((dlen (.tuple ds) : Nat) : Int) = n) = true := by
        refine decide_eq_true ?_
        show ((ds.length : Nat) : Int) = n
        by_cases z : ((ds.length : Nat) : Int) = n
        · exact z
        · rw [decide_eq_false z] at hz
          exact Bool.noConfusion hz
      rw [e, Bool.and_true] at h
      walk_at "hw"
      refine ⟨fun i env => ∃ c : Sl, env = [.val (.int n), .val (.tuple ds), .val (.int l), c] ∧ (ds.take i).all (fun d => isQ d && topGt l d) = true, ⟨_, rfl, rfl⟩, ?_, ?_⟩
      · rintro i d env hi ⟨c, rfl, ha⟩
        have no : (isQ d && topGt l d) = false → Qd (.bool false) := fun z => by
          have e : isRowGe l (.tuple ds) = false := by
            show ds.all _ = false
            rw [List.all_eq_false]
            exact ⟨d, List.mem_of_getElem? hi, by rw [z]; decide⟩
          rw [e] at h; exact h
        walk_at "hw"
        refine ⟨d, rfl, fun hq => no ?_, fun hq => ?_⟩
        · have : isQ d = false := by simpa using hq
          rw [this]; rfl
        · have hq : isQ d = true := by simpa using hq
          obtain ⟨q, rfl, iq⟩ := isQ_inv hq
          refine Exists.intro _ (And.intro rfl ?_)
          refine ⟨fun hl => no ?_, fun hl => ⟨_, rfl, ?_⟩⟩
          · have hl := of_decide_eq_true hl
            show (isQ (dq q) && decide (l ≤ q.1)) = false
            rw [hq, Bool.true_and, decide_eq_false (by omega)]
          · have hl := of_decide_eq_false hl
            rw [all_take hi, ha, hq]
            show (true && (true && decide (l ≤ q.1))) = true
            rw [decide_eq_true (by omega)]; rfl
      · rintro env ⟨c, rfl, ha⟩
        rw [List.take_length] at ha
        have e : isRowGe l (.tuple ds) = true := ha
        rw [e] at h
        exact h
  all_goals (walk_at "hw"; simp only [isTup, Bool.not_false, true_implies, reduceCtorEq, false_implies, and_true]; exact h)
theorem r_l_long : ∀ ss Qd Xd, c_l_long ss Qd Xd → w_l_long (endsOf Qd Xd) (startE 4 ss) := by
  rintro ss Qd Xd ⟨rfl, h⟩
  unfold w_l_long
  refine sq_i ?_
  walk_at "hw"
  refine ⟨by decide, by decide, .inl (by decide +kernel), by decide, .inl (by decide +kernel), by decide, .inl (by decide +kernel), by decide, .inl (by decide +kernel), ?_⟩
  have e : (10 ^ Int.toNat 60 * 10 ^ Int.toNat 60 * 10 ^ Int.toNat 60 * 10 ^ Int.toNat 60 * 10 ^ Int.toNat 59 : Int) = ((10 ^ 299 : Nat) : Int) := by decide +kernel
  have g0 : (1000000 : Nat) < 10 ^ 299 := by decide +kernel
  have g1 : 9 * 10 ^ 299 + 1000000 < 2 ^ 1000 := by decide +kernel
  rw [e]
  generalize (10 ^ 299 : Nat) = g at g0 g1 ⊢
  refine sq_i ?_
  walk_at "hw"
  refine tk_i (by decide) (by decide) fun r r0 r1 => ?_
  walk_at "hw"
  refine And.intro (.inr (.inl (by decide))) (tk_i (by decide) (by decide) fun t t0 t1 => ?_)
  refine low_i (n := 1000) (by omega) ⟨?_, ?_⟩ (by decide) (by decide) fun q hq bq => ?_
  · refine Nat.lt_of_le_of_lt ?_ g1
    show ((g : Int) + r).natAbs ≤ _
    omega
  · refine Nat.lt_of_le_of_lt ?_ g1
    show (9 * (g : Int) - 1 - t).natAbs ≤ _
    omega
  refine sq_i ?_
  walk_at "hw"
  refine tk_i (by decide) (by decide) fun r' r0' r1' => ?_
  walk_at "hw"
  refine And.intro (.inr (.inl (by decide))) (tk_i (by decide) (by decide) fun t' t0' t1' => ?_)
  refine low_i (n := 1000) (by omega) ⟨?_, ?_⟩ (by decide) (by decide) fun s hs bs => ?_
  · refine Nat.lt_of_le_of_lt ?_ g1
    show (r' - (g : Int)).natAbs ≤ _
    omega
  · refine Nat.lt_of_le_of_lt ?_ g1
    show (7 * (g : Int) + 2 + t').natAbs ≤ _
    omega
  exact ⟨by decide, h q s hq hs bq bs⟩
theorem cut_mem {ds : List PyData} {lo hi : Option Int} {d : PyData} (h : d ∈ cutD ds lo hi) : d ∈ ds := List.mem_of_mem_drop (List.mem_of_mem_take h)
theorem cut_len {ds : List PyData} {lo hi : Option Int} : (cutD ds lo hi).length ≤ ds.length := by
  unfold cutD
  rw [List.length_take, List.length_drop]
  omega
theorem r_l_row : ∀ ss Qd Xd, c_l_row ss Qd Xd → w_l_row (endsOf Qd Xd) (startE 6 ss) := by
  rintro ss Qd Xd ⟨rfl, h⟩
  unfold w_l_row
  refine sq_i ?_
  walk_at "hw"
  refine tk_i (by decide) (by decide) fun n n0 n1 => ?_
  refine sq_i ?_
  walk_at "hw"
  refine tk_i (by decide) (by decide) fun r r0 r1 => ?_
  simp only [shp_int, eqv_int, true_and]
  refine ⟨fun _ => sq_i ?_, fun _ => sq_i ?_⟩
  · walk_at "hw"
    refine tk_i (by decide) (by decide) fun t t0 t1 => ?_
    have vone : Val (.tuple [.int (1 + t), .int 1]) := val_two (Nat.lt_of_le_of_lt (m := 10) (by omega) (by decide)) (by decide)
    refine ⟨by decide, by decide, by decide, by decide, by decide, sq_i ?_⟩
    have el : (List.replicate (Int.toNat 40) [PyData.tuple [PyData.int (1 + t), PyData.int 1]]).flatten = List.replicate 40 (PyData.tuple [PyData.int (1 + t), PyData.int 1]) := rfl
    rw [el]
    have hL : (List.replicate 40 (PyData.tuple [PyData.int (1 + t), PyData.int 1])).length = 40 := List.length_replicate
    have hV : ∀ d ∈ List.replicate 40 (PyData.tuple [PyData.int (1 + t), PyData.int 1]), Val d := fun d hd => by rw [List.eq_of_mem_replicate hd]; exact vone
    generalize List.replicate 40 (PyData.tuple [PyData.int (1 + t), PyData.int 1]) = L at hL hV ⊢
    walk_at "hw"
    refine tk_i (by decide) (by decide) fun spot s0 s1 => ?_
    walk_at "hw"
    refine ⟨rfl, fun v hv => ?_⟩
    have c1 := cut_len (ds := L) (lo := none) (hi := some spot)
    have c2 := cut_len (ds := L) (lo := some (spot + 1)) (hi := none)
    refine ⟨by decide, by omega, by rw [List.length_append, List.length_singleton]; omega, h _ ?_ ?_⟩
    · rw [List.length_append, List.length_append, List.length_singleton]; omega
    · intro d hd
      rcases List.mem_append.1 hd with z | z
      · rcases List.mem_append.1 z with z | z
        · exact hV d (cut_mem z)
        · rw [List.mem_singleton.1 z]; exact hv
      · exact hV d (cut_mem z)
  · walk_at "hw"
    refine And.intro (by decide) (sq_i ?_)
    walk_at "hw"
    refine ⟨by omega, by omega, fun i env => ∃ (ds : List PyData) (a b c : Sl), env = [.pool, .val (.int n), .cell ds, a, b, c] ∧ ds.length = i ∧ ∀ d ∈ ds, Val d, ⟨[], _, _, _, rfl, rfl, fun _ h => by cases h⟩, ?_, ?_⟩
    · rintro i d env hi ⟨ds, a, b, c, rfl, el, hv⟩
      obtain ⟨hi2, rfl⟩ := rg_get hi
      have li : i < 6 := by omega
      have put : ∀ (v : PyData) (a b c : Sl), Val v → ∃ (ds' : List PyData) (a' b' c' : Sl), ([.pool, .val (.int n), .cell (ds ++ [v]), a, b, c] : List Sl) = [.pool, .val (.int n), .cell ds', a', b', c'] ∧ ds'.length = i + 1 ∧ ∀ d ∈ ds', Val d := fun v a b c hv' =>
        ⟨ds ++ [v], a, b, c, rfl, by rw [List.length_append, el]; rfl, fun d hd => by
          rcases List.mem_append.1 hd with z | z
          · exact hv d z
          · rw [List.mem_singleton.1 z]; exact hv'⟩
      refine sq_i ?_
      walk_at "hw"
      refine tk_i (by decide) (by decide) fun p p0 p1 => ?_
      simp only [shp_int, eqv_int, true_and]
      refine ⟨fun _ => ⟨rfl, fun v hv' => ⟨by omega, put v _ _ _ hv'⟩⟩, fun _ => ⟨fun _ => ⟨by decide, by omega, put _ _ _ _ (val_two (by decide) (by decide))⟩, fun _ => ?_⟩⟩
      refine tk_i (by decide) (by decide) fun u u0 u1 => ?_
      walk_at "hw"
      refine tk_i (by decide) (by decide) fun v v0 v1 => ?_
      refine low_i (n := 200) (by omega) ⟨Nat.lt_of_le_of_lt (m := 20) ?_ (by decide), Nat.lt_of_le_of_lt (m := 20) ?_ (by decide)⟩ (by decide) (by decide) fun s hs bs => ⟨by omega, put _ _ _ _ (val_quo bs)⟩
      · show (1 + u).natAbs ≤ 20
        omega
      · show (1 + v).natAbs ≤ 20
        omega
    · rintro env ⟨ds, a, b, c, rfl, el, hv⟩
      rw [rgD_len] at el
      walk_at "hw"
      exact h ds (by omega) hv
end K00
-- K00o
set_option Elab.async false
set_option linter.all false
set_option maxRecDepth 100000
set_option maxHeartbeats 4000000
open PySem L2
namespace K00
open Hw
local macro_rules | `(tactic| walk_at "hw") => `(tactic| simp only [wChain, wZf, wJoinRev, wIsx, wCallX, fStrI, fDivm, fMax2, wNext, wAsg, wAsgB, wAsgC, wRet, wRetN, wExp, wIfS, wFor, wWhile, wSetI, wApp, wPar, wFz, wRaise2, wTry, wVar, wC, wOp, wUn, wCB, wTup, wLst, wTst, Hw.wNot, wAnd, wOr, vAnd, vOr, vNot, wIf, wIsi, wCall, wCallK, wLc, wSeqI, wRng1, wZip, wLstOf, wSl, oNone, oSome, wRev, wIxC, wLenC, wTupC, wXf, wYes, aNil, aCons, aPool, datas, slot, startE, endsOf, setsE, wipeE, noC, noC1, bName, bTup, fAdd, fSub, fMulA, fMod, fDiv, fPow, fLt, fLe, fGt, fGe, fEq, fNe, fNeg, fIx, fGcd, fLen, fAbs, fInt1, fAll, fTupOf, fInt, fInt0, perm, List.set, List.length_cons, List.length_nil, List.replicate, List.cons_append, List.nil_append, List.map_cons, List.map_nil, Nat.reduceAdd, Nat.reduceSub, Nat.zero_add, Nat.sub_self, Option.map, Option.some.injEq, List.filterMap_cons, List.filterMap_nil, List.getElem?_cons_zero, List.getElem?_cons_succ, at0, at1, at2, true_and, and_true, eq_self, true_implies, reduceCtorEq, false_implies, implies_true, Bool.not_true, Bool.not_false, exists_eq_left, exists_eq_left'])
theorem shp_told : SeqAt.shaped (.str "told") = true := by decide +kernel
theorem leaf_told : Leaf (.str "told") := .inr (.inr ⟨_, rfl, shp_told⟩)
theorem like_told {d : PyData} {Q : DQ} {X : XQ} (hd : Leaf d) (h : Q (.bool true)) : c_l_like1 [.val (told d), .val (.tuple [.str "told", d])] Q X :=
  ⟨[.str "told", d], rfl, (show 2 ≤ 10 by decide), fun e he => by
    rcases List.mem_cons.1 he with rfl | he
    · exact leaf_told
    · rw [List.mem_singleton.1 he]; exact hd, h⟩
theorem r_l_reckoned : ∀ ss Qd Xd, c_l_reckoned ss Qd Xd → w_l_reckoned (endsOf Qd Xd) (startE 6 ss) := by
  rintro ss Qd Xd ⟨k, q, r, t, rfl, k0, k4, bq, br, h4, h3, h⟩
  have m1 := Or.inl (b := (-2 ^ 64 < q.1 ∧ q.1 < 2 ^ 64) ∨ (-2 ^ 64 < r.2 ∧ r.2 < 2 ^ 64)) (wide bq.1 br.2 (by decide) (by decide) (by decide))
  have m2 := Or.inl (b := (-2 ^ 64 < r.1 ∧ r.1 < 2 ^ 64) ∨ (-2 ^ 64 < q.2 ∧ q.2 < 2 ^ 64)) (wide br.1 bq.2 (by decide) (by decide) (by decide))
  have m3 := Or.inl (b := (-2 ^ 64 < q.2 ∧ q.2 < 2 ^ 64) ∨ (-2 ^ 64 < r.2 ∧ r.2 < 2 ^ 64)) (wide bq.2 br.2 (by decide) (by decide) (by decide))
  have m4 := Or.inl (b := (-2 ^ 64 < q.1 ∧ q.1 < 2 ^ 64) ∨ (-2 ^ 64 < r.1 ∧ r.1 < 2 ^ 64)) (wide bq.1 br.1 (by decide) (by decide) (by decide))
  have m5 := Or.inl (b := (-2 ^ 64 < q.2 ∧ q.2 < 2 ^ 64) ∨ (-2 ^ 64 < r.1 ∧ r.1 < 2 ^ 64)) (wide bq.2 br.1 (by decide) (by decide) (by decide))
  unfold w_l_reckoned
  refine sq_i ?_
  walk_at "hw"
  simp only [shp_int, eqv_int, true_and]
  refine ⟨fun hk => ?_, fun hk => sq_i ?_⟩
  · have hk := of_decide_eq_true hk
    rw [h4 hk]
    refine Exists.intro _ (And.intro rfl ?_)
    refine Exists.intro _ (And.intro rfl ?_)
    refine And.intro m1 ?_
    refine Exists.intro _ (And.intro rfl ?_)
    refine Exists.intro _ (And.intro rfl ?_)
    exact And.intro m2 (And.intro (by decide) (like_told (.inl ⟨_, rfl⟩) h))
  · have hk := of_decide_eq_false hk
    obtain ⟨s, rfl, hs, es, bs⟩ := h3 (by omega)
    have bt1 : Bt 2001 (due k q r) := by
      have x1 := imul_bt bq.1 br.2
      have x2 := imul_bt br.1 bq.2
      have x3 := imul_bt bq.2 br.2
      have x4 := imul_bt bq.1 br.1
      have x5 := imul_bt bq.2 br.1
      unfold due
      split
      · exact ⟨by have := iadd_bt (y := -(r.1 * q.2)) x1 (by rw [Int.natAbs_neg]; exact x2); rw [← Int.sub_eq_add_neg] at this; exact this, lt_pow_mono x3 (by decide)⟩
      · split
        · exact ⟨lt_pow_mono x4 (by decide), lt_pow_mono x3 (by decide)⟩
        · split
          · exact ⟨lt_pow_mono x1 (by decide), lt_pow_mono x5 (by decide)⟩
          · exact ⟨iadd_bt x1 x2, lt_pow_mono x3 (by decide)⟩
    have fin : ∀ (T B : Int), (T, B) = due k q r → (s.1.natAbs.log2 + B.natAbs.log2 < 1000000 ∨ -2 ^ 64 < s.1 ∧ s.1 < 2 ^ 64 ∨ -2 ^ 64 < B ∧ B < 2 ^ 64) ∧ (s.2.natAbs.log2 + T.natAbs.log2 < 1000000 ∨ -2 ^ 64 < s.2 ∧ s.2 < 2 ^ 64 ∨ -2 ^ 64 < T ∧ T < 2 ^ 64) ∧
        Qd (.bool (decide (s.1 * B = s.2 * T))) := by
      intro T B hTB
      rw [← hTB] at bt1 es
      refine ⟨.inl (wide bs.1 bt1.2 (by decide) (by decide) (by decide)), .inl (wide bs.2 bt1.1 (by decide) (by decide) (by decide)), ?_⟩
      have e : s.1 * B = s.2 * T := es
      rw [decide_eq_true e]
      exact h
    unfold told
    walk_at "hw"
    simp only [isTup, shp_int, eqv_int, Bool.not_true, reduceCtorEq, false_implies, true_implies, true_and, decide_true]
    refine ⟨fun z => absurd z (by decide), fun _ => ⟨shp_told, shp_told, fun z => absurd z (by decide), fun _ => ⟨dq s, rfl, ?_⟩⟩⟩
    rw [isQ_dq hs]
    refine ⟨fun z => Bool.noConfusion z, fun _ => sq_i ?_⟩
    unfold dq
    walk_at "hw"
    refine ⟨m1, m2, sq_i ?_⟩
    walk_at "hw"
    refine ⟨m3, sq_i ?_⟩
    walk_at "hw"
    simp only [shp_int, eqv_int, true_and]
    have kc : k = 0 ∨ k = 1 ∨ k = 2 ∨ k = 3 := by omega
    rcases kc with rfl | rfl | rfl | rfl
    · refine ⟨fun z => by simp at z, fun _ => sq_i ?_⟩
      walk_at "hw"
      simp only [shp_int, eqv_int, true_and]
      refine ⟨fun z => by simp at z, fun _ => sq_i ?_⟩
      walk_at "hw"
      simp only [shp_int, eqv_int, true_and]
      exact ⟨fun z => by simp at z, fun _ => fin _ _ rfl⟩
    · refine ⟨fun _ => ⟨m1, m2, sq_i ?_⟩, fun z => by simp at z⟩
      walk_at "hw"
      simp only [shp_int, eqv_int, true_and]
      refine ⟨fun z => by simp at z, fun _ => sq_i ?_⟩
      walk_at "hw"
      simp only [shp_int, eqv_int, true_and]
      exact ⟨fun z => by simp at z, fun _ => fin _ _ rfl⟩
    · refine ⟨fun z => by simp at z, fun _ => sq_i ?_⟩
      walk_at "hw"
      simp only [shp_int, eqv_int, true_and]
      refine ⟨fun _ => ⟨m4, sq_i ?_⟩, fun z => by simp at z⟩
      walk_at "hw"
      simp only [shp_int, eqv_int, true_and]
      exact ⟨fun z => by simp at z, fun _ => fin _ _ rfl⟩
    · refine ⟨fun z => by simp at z, fun _ => sq_i ?_⟩
      walk_at "hw"
      simp only [shp_int, eqv_int, true_and]
      refine ⟨fun z => by simp at z, fun _ => sq_i ?_⟩
      walk_at "hw"
      simp only [shp_int, eqv_int, true_and]
      refine ⟨fun _ => sq_i ?_, fun z => by simp at z⟩
      walk_at "hw"
      simp only [shp_int, eqv_int, true_and]
      exact ⟨m1, m5, fin _ _ rfl⟩
end K00
-- K00p
set_option Elab.async false
set_option linter.all false
set_option maxRecDepth 100000
set_option maxHeartbeats 4000000
open PySem L2
namespace K00
open Hw
local macro_rules | `(tactic| walk_at "hw") => `(tactic| simp only [wChain, wZf, wJoinRev, wIsx, wCallX, fStrI, fDivm, fMax2, wNext, wAsg, wAsgB, wAsgC, wRet, wRetN, wExp, wIfS, wFor, wWhile, wSetI, wApp, wPar, wFz, wRaise2, wTry, wVar, wC, wOp, wUn, wCB, wTup, wLst, wTst, Hw.wNot, wAnd, wOr, vAnd, vOr, vNot, wIf, wIsi, wCall, wCallK, wLc, wSeqI, wRng1, wZip, wLstOf, wSl, oNone, oSome, wRev, wIxC, wLenC, wTupC, wXf, wYes, aNil, aCons, aPool, datas, slot, startE, endsOf, setsE, wipeE, noC, noC1, bName, bTup, fAdd, fSub, fMulA, fMod, fDiv, fPow, fLt, fLe, fGt, fGe, fEq, fNe, fNeg, fIx, fGcd, fLen, fAbs, fInt1, fAll, fTupOf, fInt, fInt0, perm, List.set, List.length_cons, List.length_nil, List.replicate, List.cons_append, List.nil_append, List.map_cons, List.map_nil, Nat.reduceAdd, Nat.reduceSub, Nat.zero_add, Nat.sub_self, Option.map, Option.some.injEq, List.filterMap_cons, List.filterMap_nil, List.getElem?_cons_zero, List.getElem?_cons_succ, at0, at1, at2, true_and, and_true, eq_self, true_implies, reduceCtorEq, false_implies, implies_true, Bool.not_true, Bool.not_false, exists_eq_left, exists_eq_left'])
def w_pair (C : Addr) : WS := (wSeq (wIfS (wTst (wOp fGt (wVar 0) (wC (.int 4))))
  (wSeq (wIfS (wOr (wNot (wTst (wCall 1 c_l_whole (aCons (wVar 1) aNil)))) (wTst (wOp fLt (wVar 1) (wC (.int 0)))))
  (wRet (wCall 2 c_l_like1 (aCons (wVar 4) (aCons (wTup (aCons (wC (.str "refused")) (aCons (wC (.str "many")) (aCons (wUn fNeg (wC (.int 1))) aNil)))) aNil))))
  wNext)
  (wSeq (wIfS (wTst (wOp fEq (wVar 0) (wC (.int 7))))
  (wRet (wCall 2 c_l_like1 (aCons (wVar 4) (aCons (wTup (aCons (wC (.str "told")) (aCons (vAnd (wCall 1 c_l_whole (aCons (wVar 2) aNil)) (vAnd (wOp fLe (wUn fNeg (wC (.int 4))) (wVar 2)) (wOp fLt (wVar 2) (wVar 1)))) aNil))) aNil))))
  wNext)
  (wRet (wCall 2 c_l_like1 (aCons (wVar 4) (aCons (wTup (aCons (wC (.str "told")) (aCons (wCall 3 c_l_all_of (aCons (wVar 1) (aCons (wVar 2) (aCons (wOp fSub (wC (.int 6)) (wVar 0)) aNil)))) aNil))) aNil))))))
  wNext)
  (wSeq (wIfS (wNot (wTst (wCall 1 c_l_quotient (aCons (wVar 1) aNil))))
  (wRet (wCall 2 c_l_like1 (aCons (wVar 4) (aCons (wTup (aCons (wC (.str "refused")) (aCons (wC (.str "one")) (aCons (wUn fNeg (wC (.int 1))) aNil)))) aNil))))
  wNext)
  (wSeq (wIfS (wOr (wNot (wTst (wCall 1 c_l_quotient (aCons (wVar 2) aNil)))) (wAnd (wTst (wOp fEq (wVar 0) (wC (.int 3)))) (wTst (wOp fEq (wOp fIx (wVar 2) (wC (.int 0))) (wC (.int 0))))))
  (wRet (wCall 2 c_l_like1 (aCons (wVar 4) (aCons (wTup (aCons (wC (.str "refused")) (aCons (wC (.str "other")) (aCons (wUn fNeg (wC (.int 1))) aNil)))) aNil))))
  wNext)
  (wRet (wCall 4 c_l_reckoned (aCons (wVar 0) (aCons (wVar 1) (aCons (wVar 2) (aCons (wVar 4) aNil)))))))))
theorem pair_split (C : Addr) : w_l_pair C = wSeq (wAsg 4 (wCall 4 (c_l_two C) (aCons (wVar 0) (aCons (wVar 1) (aCons (wVar 2) (aCons (wVar 3) aNil)))))) (w_pair C) := rfl
theorem shp_ref : SeqAt.shaped (.str "refused") = true := by decide +kernel
theorem like_ref {w : Str} {Q : DQ} {X : XQ} (hw : SeqAt.shaped (.str w) = true) (h : Q (.bool true)) : c_l_like1 [.val (ref3 w), .val (.tuple [.str "refused", .str w, .int (-1)])] Q X :=
  ⟨[.str "refused", .str w, .int (-1)], rfl, (show 3 ≤ 10 by decide), fun e he => by
    rcases List.mem_cons.1 he with rfl | he
    · exact .inr (.inr ⟨_, rfl, shp_ref⟩)
    · rcases List.mem_cons.1 he with rfl | he
      · exact .inr (.inr ⟨_, rfl, hw⟩)
      · rw [List.mem_singleton.1 he]; exact .inr (.inl ⟨_, rfl⟩), h⟩
theorem shp_many : SeqAt.shaped (.str "many") = true := by decide +kernel
theorem shp_one : SeqAt.shaped (.str "one") = true := by decide +kernel
theorem shp_other : SeqAt.shaped (.str "other") = true := by decide +kernel
/-- what the first answer may be -/
def Good (k : Int) (l r t : PyData) : Prop := (4 < k ∧ isN l = false ∧ t = ref3 "many") ∨ (k = 7 ∧ ∃ n : Int, l = .int n ∧ 0 ≤ n ∧ t = told (.bool (isS r || isPic n r))) ∨
  ((k = 5 ∨ k = 6) ∧ ∃ n : Int, l = .int n ∧ 0 ≤ n ∧ t = told (.bool (isRowGe (6 - k) r && decide ((dlen r : Int) = n)))) ∨ (k ≤ 4 ∧ isQ l = false ∧ t = ref3 "one") ∨
  (k ≤ 4 ∧ isQ l = true ∧ (isQ r = false ∨ (k = 3 ∧ ∃ p : Qo, r = dq p ∧ IsQuo p ∧ p.1 = 0)) ∧ t = ref3 "other") ∨
  (0 ≤ k ∧ k ≤ 4 ∧ ∃ q p : Qo, l = dq q ∧ r = dq p ∧ IsQuo q ∧ IsQuo p ∧ Bt 1000 q ∧ Bt 1000 p ∧ (k = 3 → p.1 ≠ 0) ∧ (k = 4 → t = told (.bool (decide (q.1 * p.2 < p.1 * q.2)))) ∧
    (k < 4 → ∃ s : Qo, t = told (dq s) ∧ IsQuo s ∧ Eqq s (due k q p) ∧ Bt 3000 s))
theorem r_pair (C : Addr) {k : Int} {l r t : PyData} {nm : Bool} {Qd : DQ} {Xd : XQ} (g : Good k l r t) (h : Qd (.bool true)) : w_pair C (endsOf Qd Xd) [.val (.int k), .val l, .val r, .val (.bool nm), .val t] := by
  unfold w_pair
  refine sq_i ?_
  walk_at "hw"
  rcases g with ⟨hk, hl, rfl⟩ | ⟨rfl, n, rfl, hn, rfl⟩ | ⟨hk, n, rfl, hn, rfl⟩ | ⟨hk, hl, rfl⟩ | ⟨hk, hl, hr, rfl⟩ | ⟨k0, hk, q, p, rfl, rfl, iq, ip, bq, bp, h3, h4, h5⟩
  · refine ⟨fun _ => sq_i ?_, fun z => by rw [decide_eq_true hk] at z; cases z⟩
    walk_at "hw"
    refine ⟨l, rfl, fun hi => ⟨by decide, like_ref shp_many h⟩, fun hi => ?_⟩
    cases l with
    | int i =>
      walk_at "hw"
      have hl : ¬ 0 ≤ i := of_decide_eq_false hl
      exact ⟨fun _ => ⟨by decide, like_ref shp_many h⟩, fun z => by have := of_decide_eq_false z; omega⟩
    | _ => cases hi
  · refine ⟨fun _ => sq_i ?_, fun z => by cases z⟩
    walk_at "hw"
    refine Exists.intro _ (And.intro rfl (And.intro (fun z => Bool.noConfusion z) (fun _ => And.intro (fun z => by have := of_decide_eq_true z; omega) (fun _ => sq_i ?_))))
    walk_at "hw"
    simp only [shp_int, eqv_int, true_and]
    refine ⟨fun _ => ?_, fun z => by simp at z⟩
    refine Exists.intro _ (And.intro rfl (And.intro (fun hi => ?_) (fun hi => ?_)))
    · cases r with
      | int i =>
        walk_at "hw"
        have e : (isS (.int i) || isPic n (.int i)) = (decide (-4 ≤ i) && decide (i < n)) := by
          simp only [isS, isPic]
          rw [Bool.eq_iff_iff]
          simp only [Bool.or_eq_true, Bool.and_eq_true, decide_eq_true_eq]
          omega
        rw [e]
        refine ⟨fun h4 => ⟨by decide, ?_⟩, fun h4 => ⟨by decide, ?_⟩⟩
        · rw [h4]; exact like_told (.inl ⟨_, rfl⟩) h
        · rw [h4]; exact like_told (.inl ⟨_, rfl⟩) h
      | _ => cases hi
    · have e : (isS r || isPic n r) = false := by
        cases r with
        | int i => cases hi
        | _ => rfl
      rw [e]
      exact ⟨by decide, like_told (.inl ⟨_, rfl⟩) h⟩
  · refine ⟨fun _ => sq_i ?_, fun z => by have := of_decide_eq_false z; omega⟩
    walk_at "hw"
    refine Exists.intro _ (And.intro rfl (And.intro (fun z => Bool.noConfusion z) (fun _ => And.intro (fun z => by have := of_decide_eq_true z; omega) (fun _ => sq_i ?_))))
    walk_at "hw"
    simp only [shp_int, eqv_int, true_and]
    refine ⟨fun z => by have := of_decide_eq_true z; omega, fun _ => ⟨n, 6 - k, r, rfl, by decide, like_told (.inl ⟨_, rfl⟩) h⟩⟩
  · refine ⟨fun z => by have := of_decide_eq_true z; omega, fun _ => sq_i ?_⟩
    walk_at "hw"
    refine ⟨l, rfl, ?_⟩
    rw [hl]
    exact ⟨fun _ => ⟨by decide, like_ref shp_one h⟩, fun z => Bool.noConfusion z⟩
  · refine ⟨fun z => by have := of_decide_eq_true z; omega, fun _ => sq_i ?_⟩
    walk_at "hw"
    refine ⟨l, rfl, ?_⟩
    rw [hl]
    refine ⟨fun z => Bool.noConfusion z, fun _ => sq_i ?_⟩
    walk_at "hw"
    refine ⟨r, rfl, ?_⟩
    rcases hr with hr | ⟨rfl, p, rfl, ip, hp⟩
    · rw [hr]
      exact ⟨fun _ => ⟨by decide, like_ref shp_other h⟩, fun z => Bool.noConfusion z⟩
    · rw [isQ_dq ip]
      refine ⟨fun z => Bool.noConfusion z, fun _ => ?_⟩
      simp only [shp_int, eqv_int, true_and]
      refine ⟨fun _ => ?_, fun z => by simp at z⟩
      refine Exists.intro _ (And.intro rfl ?_)
      simp only [shp_int, eqv_int, true_and]
      exact ⟨fun _ => ⟨by decide, like_ref shp_other h⟩, fun z => by rw [decide_eq_true hp] at z; cases z⟩
  · refine ⟨fun z => by have := of_decide_eq_true z; omega, fun _ => sq_i ?_⟩
    walk_at "hw"
    refine ⟨_, rfl, ?_⟩
    rw [isQ_dq iq]
    refine ⟨fun z => Bool.noConfusion z, fun _ => sq_i ?_⟩
    walk_at "hw"
    refine ⟨_, rfl, ?_⟩
    rw [isQ_dq ip]
    refine ⟨fun z => Bool.noConfusion z, fun _ => ?_⟩
    simp only [shp_int, eqv_int, true_and]
    have rest : c_l_reckoned [.val (.int k), .val (dq q), .val (dq p), .val t] Qd Xd := ⟨k, q, p, t, rfl, k0, hk, bq, bp, h4, h5, h⟩
    refine ⟨fun hk3 => ?_, fun _ => rest⟩
    have hk3 := of_decide_eq_true hk3
    refine Exists.intro _ (And.intro rfl ?_)
    simp only [shp_int, eqv_int, true_and]
    exact ⟨fun z => absurd (of_decide_eq_true z) (h3 hk3), fun _ => rest⟩
end K00
-- K00q
set_option Elab.async false
set_option linter.all false
set_option maxRecDepth 100000
set_option maxHeartbeats 4000000
open PySem L2
namespace K00
open Hw
local macro_rules | `(tactic| walk_at "hw") => `(tactic| simp only [wChain, wZf, wJoinRev, wIsx, wCallX, fStrI, fDivm, fMax2, wNext, wAsg, wAsgB, wAsgC, wRet, wRetN, wExp, wIfS, wFor, wWhile, wSetI, wApp, wPar, wFz, wRaise2, wTry, wVar, wC, wOp, wUn, wCB, wTup, wLst, wTst, Hw.wNot, wAnd, wOr, vAnd, vOr, vNot, wIf, wIsi, wCall, wCallK, wLc, wSeqI, wRng1, wZip, wLstOf, wSl, oNone, oSome, wRev, wIxC, wLenC, wTupC, wXf, wYes, aNil, aCons, aPool, datas, slot, startE, endsOf, setsE, wipeE, noC, noC1, bName, bTup, fAdd, fSub, fMulA, fMod, fDiv, fPow, fLt, fLe, fGt, fGe, fEq, fNe, fNeg, fIx, fGcd, fLen, fAbs, fInt1, fAll, fTupOf, fInt, fInt0, perm, List.set, List.length_cons, List.length_nil, List.replicate, List.cons_append, List.nil_append, List.map_cons, List.map_nil, Nat.reduceAdd, Nat.reduceSub, Nat.zero_add, Nat.sub_self, Option.map, Option.some.injEq, List.filterMap_cons, List.filterMap_nil, List.getElem?_cons_zero, List.getElem?_cons_succ, at0, at1, at2, true_and, and_true, eq_self, true_implies, reduceCtorEq, false_implies, implies_true, Bool.not_true, Bool.not_false, exists_eq_left, exists_eq_left'])
theorem good_two {C : Addr} {P : Qo → Qo → DQ → Prop} {k : Int} {l r : PyData} {Q : DQ} (hk : k ≤ 4) (h3 : k ≠ 3) (hQ : ∀ t, Good k l r t → Q t)
    (hP : ∀ q p : Qo, l = dq q → r = dq p → IsQuo q → IsQuo p → P q p (fun d => Q (told d))) : cTwo C P [.val l, .val r] (fun d => Q (told d)) (fun x => ∃ w : Str, x = nu C w ∧ Q (ref3 w)) :=
  ⟨l, r, rfl, fun z => ⟨"one", rfl, hQ _ (.inr (.inr (.inr (.inl ⟨hk, z, rfl⟩))))⟩, fun z y => ⟨"other", rfl, hQ _ (.inr (.inr (.inr (.inr (.inl ⟨hk, z, .inl y, rfl⟩)))))⟩, fun q p a b c d => hP q p a b c d⟩
theorem good_quo {k : Int} {q p s : Qo} (k0 : 0 ≤ k) (hk : k < 4) (iq : IsQuo q) (ip : IsQuo p) (bq : Bt 1000 q) (bp : Bt 1000 p) (h3 : k = 3 → p.1 ≠ 0) (hs : IsQuo s) (es : Eqq s (due k q p)) (bs : Bt 3000 s) : Good k (dq q) (dq p) (told (dq s)) :=
  .inr (.inr (.inr (.inr (.inr ⟨k0, by omega, q, p, rfl, rfl, iq, ip, bq, bp, h3, fun z => by omega, fun _ => ⟨s, rfl, hs, es, bs⟩⟩))))
theorem r_l_pair (C : Addr) : ∀ ss Qd Xd, c_l_pair C ss Qd Xd → w_l_pair C (endsOf Qd Xd) (startE 5 ss) := by
  rintro ss Qd Xd ⟨k, l, r, nm, rfl, k0, k7, vl, vr, h⟩
  rw [pair_split]
  refine sq_i ?_
  walk_at "hw"
  have hQ : ∀ t, Good k l r t → w_pair C (endsOf Qd Xd) [.val (.int k), .val l, .val r, .val (.bool nm), .val t] := fun t g => r_pair C g h
  refine ⟨k, l, r, nm, rfl, ?_⟩
  have bl : ∀ q : Qo, l = dq q → IsQuo q → Bt 1000 q := fun q e i => vl.2 q e i
  have br : ∀ q : Qo, r = dq q → IsQuo q → Bt 1000 q := fun q e i => vr.2 q e i
  have kc : k = 0 ∨ k = 1 ∨ k = 2 ∨ k = 3 ∨ k = 4 ∨ k = 5 ∨ k = 6 ∨ k = 7 := by omega
  rcases kc with rfl | rfl | rfl | rfl | rfl | rfl | rfl | rfl
  · refine .inl ⟨rfl, good_two (by decide) (by decide) hQ fun q p e1 e2 iq ip => ?_⟩
    refine ⟨1000, 1000, bl q e1 iq, br p e2 ip, by decide, by decide, by decide, fun s hs es bs => hQ _ ?_⟩
    subst e1 e2
    exact good_quo (by decide) (by decide) iq ip (bl q rfl iq) (br p rfl ip) (fun z => by cases z) hs es (bs.mono (by decide))
  · refine .inr (.inl ⟨rfl, good_two (by decide) (by decide) hQ fun q p e1 e2 iq ip => ?_⟩)
    have bp := br p e2 ip
    have bn : Bt 1000 (ng p) := ⟨by show (-p.1).natAbs < _; rw [Int.natAbs_neg]; exact bp.1, bp.2⟩
    refine ⟨1000, 1000, bl q e1 iq, bn, by decide, by decide, by decide, fun s hs es bs => hQ _ ?_⟩
    subst e1 e2
    refine good_quo (by decide) (by decide) iq ip (bl q rfl iq) bp (fun z => by cases z) hs ?_ (bs.mono (by decide))
    have e : stepU q (ng p) = due 1 q p := by
      show (q.1 * p.2 + -p.1 * q.2, q.2 * p.2) = (q.1 * p.2 - p.1 * q.2, q.2 * p.2)
      rw [Int.neg_mul, Int.sub_eq_add_neg]
    rw [← e]
    exact es
  · refine .inr (.inr (.inl ⟨rfl, good_two (by decide) (by decide) hQ fun q p e1 e2 iq ip => ?_⟩))
    refine ⟨1000, 1000, bl q e1 iq, br p e2 ip, by decide, by decide, by decide, fun s hs es bs => hQ _ ?_⟩
    subst e1 e2
    exact good_quo (by decide) (by decide) iq ip (bl q rfl iq) (br p rfl ip) (fun z => by cases z) hs es (bs.mono (by decide))
  · refine .inr (.inr (.inr (.inl ⟨rfl, l, r, rfl, fun z => ⟨"one", rfl, hQ _ (.inr (.inr (.inr (.inl ⟨by decide, z, rfl⟩))))⟩, fun z y => ⟨"other", rfl, hQ _ (.inr (.inr (.inr (.inr (.inl ⟨by decide, z, .inl y, rfl⟩)))))⟩, fun q p e1 e2 iq ip => ⟨fun hz => ?_, fun hz => ?_⟩⟩)))
    · subst e1 e2
      exact ⟨"other", rfl, hQ _ (.inr (.inr (.inr (.inr (.inl ⟨by decide, isQ_dq iq, .inr ⟨rfl, p, rfl, ip, hz⟩, rfl⟩)))))⟩
    · refine ⟨1000, 1000, bl q e1 iq, br p e2 ip, by decide, by decide, by decide, fun s hs es bs => hQ _ ?_⟩
      subst e1 e2
      exact good_quo (by decide) (by decide) iq ip (bl q rfl iq) (br p rfl ip) (fun _ => hz) hs es (bs.mono (by decide))
  · refine .inr (.inr (.inr (.inr (.inl ⟨rfl, good_two (by decide) (by decide) hQ fun q p e1 e2 iq ip => ?_⟩))))
    refine ⟨1000, bl q e1 iq, br p e2 ip, by decide, by decide, hQ _ ?_⟩
    subst e1 e2
    exact .inr (.inr (.inr (.inr (.inr ⟨by decide, by decide, q, p, rfl, rfl, iq, ip, bl q rfl iq, br p rfl ip, (fun z => by cases z), (fun _ => rfl), (fun z => by cases z)⟩))))
  · refine .inr (.inr (.inr (.inr (.inr (.inl ⟨rfl, l, r, rfl, Nat.le_trans vr.1 (by decide), fun z => ⟨"many", rfl, hQ _ (.inl ⟨by decide, z, rfl⟩)⟩, fun n e hn => hQ _ (.inr (.inr (.inl ⟨.inl rfl, n, e, hn, rfl⟩)))⟩)))))
  · refine .inr (.inr (.inr (.inr (.inr (.inr (.inl ⟨rfl, l, r, rfl, Nat.le_trans vr.1 (by decide), fun z => ⟨"many", rfl, hQ _ (.inl ⟨by decide, z, rfl⟩)⟩, fun n e hn => hQ _ (.inr (.inr (.inl ⟨.inr rfl, n, e, hn, rfl⟩)))⟩))))))
  · refine .inr (.inr (.inr (.inr (.inr (.inr (.inr ⟨rfl, l, r, rfl, fun z => ⟨"many", rfl, hQ _ (.inl ⟨by decide, z, rfl⟩)⟩, fun n e hn => hQ _ (.inr (.inl ⟨rfl, n, e, hn, rfl⟩))⟩))))))
end K00
-- K00r
set_option Elab.async false
set_option linter.all false
set_option maxRecDepth 100000
set_option maxHeartbeats 4000000
open PySem L2
namespace K00
open Hw
local macro_rules | `(tactic| walk_at "hw") => `(tactic| simp only [wChain, wZf, wJoinRev, wIsx, wCallX, fStrI, fDivm, fMax2, wNext, wAsg, wAsgB, wAsgC, wRet, wRetN, wExp, wIfS, wFor, wWhile, wSetI, wApp, wPar, wFz, wRaise2, wTry, wVar, wC, wOp, wUn, wCB, wTup, wLst, wTst, Hw.wNot, wAnd, wOr, vAnd, vOr, vNot, wIf, wIsi, wCall, wCallK, wLc, wSeqI, wRng1, wZip, wLstOf, wSl, oNone, oSome, wRev, wIxC, wLenC, wTupC, wXf, wYes, aNil, aCons, aPool, datas, slot, startE, endsOf, setsE, wipeE, noC, noC1, bName, bTup, fAdd, fSub, fMulA, fMod, fDiv, fPow, fLt, fLe, fGt, fGe, fEq, fNe, fNeg, fIx, fGcd, fLen, fAbs, fInt1, fAll, fTupOf, fInt, fInt0, perm, List.set, List.length_cons, List.length_nil, List.replicate, List.cons_append, List.nil_append, List.map_cons, List.map_nil, Nat.reduceAdd, Nat.reduceSub, Nat.zero_add, Nat.sub_self, Option.map, Option.some.injEq, List.filterMap_cons, List.filterMap_nil, List.getElem?_cons_zero, List.getElem?_cons_succ, at0, at1, at2, true_and, and_true, eq_self, true_implies, reduceCtorEq, false_implies, implies_true, Bool.not_true, Bool.not_false, exists_eq_left, exists_eq_left'])
def LikeOk (t : PyData) : Prop := ∃ ds, t = .tuple ds ∧ ds.length ≤ 10 ∧ ∀ d ∈ ds, Leaf d
theorem like_ok {t : PyData} {Q : DQ} {X : XQ} (ht : LikeOk t) (h : Q (.bool true)) : c_l_like1 [.val t, .val t] Q X := by
  obtain ⟨ds, rfl, l, hd⟩ := ht
  exact ⟨ds, rfl, l, hd, h⟩
theorem ok_told {d : PyData} (h : Leaf d) : LikeOk (told d) := ⟨[.str "told", d], rfl, (show 2 ≤ 10 by decide), fun e he => by
  rcases List.mem_cons.1 he with rfl | he
  · exact leaf_told
  · rw [List.mem_singleton.1 he]; exact h⟩
theorem ok_ref {w : Str} (h : SeqAt.shaped (.str w) = true) : LikeOk (ref3 w) := ⟨[.str "refused", .str w, .int (-1)], rfl, (show 3 ≤ 10 by decide), fun e he => by
  rcases List.mem_cons.1 he with rfl | he
  · exact .inr (.inr ⟨_, rfl, shp_ref⟩)
  · rcases List.mem_cons.1 he with rfl | he
    · exact .inr (.inr ⟨_, rfl, h⟩)
    · rw [List.mem_singleton.1 he]; exact .inr (.inl ⟨_, rfl⟩)⟩
theorem askS_mono {C : Addr} {k : Int} {v : PyData} {Q Q' : DQ} {X X' : XQ} (hQ : ∀ d, Q d → Q' d) (hX : ∀ x, X x → X' x) (h : askS C k v Q X) : askS C k v Q' X' := by
  rcases h with ⟨e, h⟩ | ⟨e, h⟩ | ⟨e, h⟩ | ⟨e, h⟩ | ⟨e, h⟩ | ⟨e, h⟩
  · exact .inl ⟨e, hQ _ h⟩
  · exact .inr (.inl ⟨e, hQ _ h⟩)
  · exact .inr (.inr (.inl ⟨e, hQ _ h⟩))
  · exact .inr (.inr (.inr (.inl ⟨e, cm_side _ _ _ _ _ hQ hX h⟩)))
  · exact .inr (.inr (.inr (.inr (.inl ⟨e, cm_side _ _ _ _ _ hQ hX h⟩))))
  · exact .inr (.inr (.inr (.inr (.inr ⟨e, cm_letter _ _ _ _ _ hQ hX h⟩))))
def wAlone (C : Addr) : WS := wSeq (wFor (wRng1 (wC (.int 6))) [4] bName
  (wIfS (Hw.wNot (wTst (wCall 2 c_l_like1 (aCons (wCall 3 (c_l_single C) (aCons (wVar 4) (aCons (wVar 0) (aCons (wVar 1) aNil)))) (aCons (wIxC 3 (wVar 4)) aNil)))))
  (wRet (wC (.bool false)))
  wNext))
  (wRet (wC (.bool true)))
theorem alone_fin (C : Addr) {v : PyData} {nm b : Bool} {D : List PyData} {Qd : DQ} {Xd : XQ} (hD : D.length = 6) (hA : ∀ (k : Nat) (t : PyData), D[k]? = some t → LikeOk t ∧ askS C (k : Nat) v (fun d => told d = t) (fun x => ∃ w : Str, x = nu C w ∧ ref3 w = t)) (h : Qd (.bool true)) :
    wAlone C (endsOf Qd Xd) [.val v, .val (.bool nm), .val (.bool b), .cell D, .un] := by
  unfold wAlone
  refine sq_i ?_
  walk_at "hw"
  refine ⟨by decide, by decide, fun i env => ∃ c : Sl, env = [.val v, .val (.bool nm), .val (.bool b), .cell D, c], ⟨_, rfl⟩, ?_, fun _ _ => h⟩
  rintro i d env hi ⟨c, rfl⟩
  obtain ⟨hi0, rfl⟩ := rg_get hi
  have hi6 : i < 6 := hi0
  have e : D[i]? = some D[i] := List.getElem?_eq_getElem (by omega)
  obtain ⟨ok, ask⟩ := hA i _ e
  walk_at "hw"
  refine ⟨i, v, nm, rfl, askS_mono (Q := fun d => told d = D[i]) (X := fun x => ∃ w : Str, x = nu C w ∧ ref3 w = D[i]) (fun d hd => ?_) (fun x hx => ?_) ask⟩
  · have hd : told d = D[i] := hd
    rw [hd]
    exact ⟨_, atI_get e, like_ok ok ⟨fun z => Bool.noConfusion z, fun _ => ⟨_, rfl⟩⟩⟩
  · obtain ⟨w, rfl, hw⟩ := hx
    refine ⟨w, rfl, ?_⟩
    rw [hw]
    exact ⟨_, atI_get e, like_ok ok ⟨fun z => Bool.noConfusion z, fun _ => ⟨_, rfl⟩⟩⟩
theorem shp_dec (n : Nat) : SeqAt.shaped (.str (strN n)) = true := by
  have h : PyData.canLay0 (.str (strN n)) = true := by
    simp only [PyData.canLay0, PyData.strOk]
    rw [Array.all_eq_true]
    intro i hi
    have hm : (strN n).cps[i] ∈ dg n := by
      have : (strN n).cps[i] ∈ (strN n).cps.toList := by simp
      simpa [strN] using this
    unfold dg at hm
    obtain ⟨ch, h2, e⟩ := List.mem_map.mp hm
    have := Nat.isDigit_of_mem_toDigits (by decide) (by decide) h2
    unfold Char.isDigit at this
    simp only [Bool.and_eq_true, decide_eq_true_eq] at this
    rw [← e]
    have h3 : ch.toNat ≤ 57 := this.2
    simp only [decide_eq_true_eq]
    omega
  unfold SeqAt.shaped
  rw [h]
  simp [PyData.depth]
theorem side_val {i : Int} {k : Int} (hk : k = 5 ∨ k = 6) (h1 : -4 ≤ i) (h2 : i ≤ -1) : ∃ d, atI (if k = 5 then [PyData.int (-3), PyData.int (-2), PyData.int (-1), PyData.int (-4)] else [PyData.int (-2), PyData.int (-1), PyData.int (-4), PyData.int (-3)]) (i + 4) = some d ∧ d = .int ((i + k) % 4 - 4) := by
  have : i = -4 ∨ i = -3 ∨ i = -2 ∨ i = -1 := by omega
  rcases hk with rfl | rfl <;> rcases this with rfl | rfl | rfl | rfl <;> exact ⟨_, rfl, rfl⟩
end K00
-- K00s
set_option Elab.async false
set_option linter.all false
set_option maxRecDepth 100000
set_option maxHeartbeats 4000000
open PySem L2
namespace K00
open Hw
local macro_rules | `(tactic| walk_at "hw") => `(tactic| simp only [wChain, wZf, wJoinRev, wIsx, wCallX, fStrI, fDivm, fMax2, wNext, wAsg, wAsgB, wAsgC, wRet, wRetN, wExp, wIfS, wFor, wWhile, wSetI, wApp, wPar, wFz, wRaise2, wTry, wVar, wC, wOp, wUn, wCB, wTup, wLst, wTst, Hw.wNot, wAnd, wOr, vAnd, vOr, vNot, wIf, wIsi, wCall, wCallK, wLc, wSeqI, wRng1, wZip, wLstOf, wSl, oNone, oSome, wRev, wIxC, wLenC, wTupC, wXf, wYes, aNil, aCons, aPool, datas, slot, startE, endsOf, setsE, wipeE, noC, noC1, bName, bTup, fAdd, fSub, fMulA, fMod, fDiv, fPow, fLt, fLe, fGt, fGe, fEq, fNe, fNeg, fIx, fGcd, fLen, fAbs, fInt1, fAll, fTupOf, fInt, fInt0, perm, List.set, List.length_cons, List.length_nil, List.replicate, List.cons_append, List.nil_append, List.map_cons, List.map_nil, Nat.reduceAdd, Nat.reduceSub, Nat.zero_add, Nat.sub_self, Option.map, Option.some.injEq, List.filterMap_cons, List.filterMap_nil, List.getElem?_cons_zero, List.getElem?_cons_succ, at0, at1, at2, true_and, and_true, eq_self, true_implies, reduceCtorEq, false_implies, implies_true, Bool.not_true, Bool.not_false, exists_eq_left, exists_eq_left'])
theorem shp_side : SeqAt.shaped (.str "side") = true := by decide +kernel
theorem shp_place : SeqAt.shaped (.str "place") = true := by decide +kernel
theorem shp_letter {i : Int} : SeqAt.shaped (.str (letter i)) = true := by
  unfold letter
  split
  · decide +kernel
  · split
    · decide +kernel
    · split <;> decide +kernel
def head3 (v : PyData) : List PyData := [told (.bool (isI v)), told (.bool (isQ v)), told (.bool (isQ v && topGt 1 v))]
theorem alone_all {C : Addr} {v d3 d4 d5 : PyData} (o3 : LikeOk d3) (o4 : LikeOk d4) (o5 : LikeOk d5) (a3 : c_side_after C [.val v] (fun d => told d = d3) (fun x => ∃ w : Str, x = nu C w ∧ ref3 w = d3))
    (a4 : c_side_opposite C [.val v] (fun d => told d = d4) (fun x => ∃ w : Str, x = nu C w ∧ ref3 w = d4)) (a5 : c_place_letter C [.val v] (fun d => told d = d5) (fun x => ∃ w : Str, x = nu C w ∧ ref3 w = d5)) :
    ∀ (k : Nat) (t : PyData), (head3 v ++ [d3, d4, d5])[k]? = some t → LikeOk t ∧ askS C (k : Nat) v (fun d => told d = t) (fun x => ∃ w : Str, x = nu C w ∧ ref3 w = t) := by
  intro k t e
  match k, e with
  | 0, e => cases e; exact ⟨ok_told (.inl ⟨_, rfl⟩), .inl ⟨rfl, rfl⟩⟩
  | 1, e => cases e; exact ⟨ok_told (.inl ⟨_, rfl⟩), .inr (.inl ⟨rfl, rfl⟩)⟩
  | 2, e => cases e; exact ⟨ok_told (.inl ⟨_, rfl⟩), .inr (.inr (.inl ⟨rfl, rfl⟩))⟩
  | 3, e => cases e; exact ⟨o3, .inr (.inr (.inr (.inl ⟨rfl, a3⟩)))⟩
  | 4, e => cases e; exact ⟨o4, .inr (.inr (.inr (.inr (.inl ⟨rfl, a4⟩))))⟩
  | 5, e => cases e; exact ⟨o5, .inr (.inr (.inr (.inr (.inr ⟨rfl, a5⟩))))⟩
  | n + 6, e => cases e
def w_alone2 (C : Addr) : WS := (wSeq (wAsgC 3 (wLst (aCons (wTup (aCons (wC (.str "told")) (aCons (wCall 1 c_l_whole (aCons (wVar 0) aNil)) aNil))) (aCons (wTup (aCons (wC (.str "told")) (aCons (wCall 1 c_l_quotient (aCons (wVar 0) aNil)) aNil))) aNil))))
  (wSeq (wApp 3 (wTup (aCons (wC (.str "told")) (aCons (vAnd (wCall 1 c_l_quotient (aCons (wVar 0) aNil)) (wOp fGt (wOp fIx (wVar 0) (wC (.int 0))) (wC (.int 0)))) aNil))))
  (wSeq (wIfS (wTst (wVar 2))
  (wSeq (wApp 3 (wTup (aCons (wC (.str "told")) (aCons (wOp fIx (wLst (aCons (wUn fNeg (wC (.int 3))) (aCons (wUn fNeg (wC (.int 2))) (aCons (wUn fNeg (wC (.int 1))) (aCons (wUn fNeg (wC (.int 4))) aNil))))) (wOp fAdd (wVar 0) (wC (.int 4)))) aNil))))
  (wSeq (wApp 3 (wTup (aCons (wC (.str "told")) (aCons (wOp fIx (wLst (aCons (wUn fNeg (wC (.int 2))) (aCons (wUn fNeg (wC (.int 1))) (aCons (wUn fNeg (wC (.int 4))) (aCons (wUn fNeg (wC (.int 3))) aNil))))) (wOp fAdd (wVar 0) (wC (.int 4)))) aNil))))
  (wApp 3 (wTup (aCons (wC (.str "told")) (aCons (wOp fIx (wC (.str "WNES")) (wOp fAdd (wVar 0) (wC (.int 4)))) aNil))))))
  (wSeq (wApp 3 (wTup (aCons (wC (.str "refused")) (aCons (wC (.str "side")) (aCons (wUn fNeg (wC (.int 1))) aNil)))))
  (wSeq (wApp 3 (wTup (aCons (wC (.str "refused")) (aCons (wC (.str "side")) (aCons (wUn fNeg (wC (.int 1))) aNil)))))
  (wIfS (wAnd (wTst (wCall 1 c_l_whole (aCons (wVar 0) aNil))) (wTst (wOp fGe (wVar 0) (wC (.int 0)))))
  (wApp 3 (wTup (aCons (wC (.str "told")) (aCons (wCB fStrI (aCons (wVar 0) aNil)) aNil))))
  (wApp 3 (wTup (aCons (wC (.str "refused")) (aCons (wC (.str "place")) (aCons (wUn fNeg (wC (.int 1))) aNil)))))))))
  (wSeq (wFor (wRng1 (wC (.int 6))) [4] bName
  (wIfS (wNot (wTst (wCall 2 c_l_like1 (aCons (wCall 3 (c_l_single C) (aCons (wVar 4) (aCons (wVar 0) (aCons (wVar 1) aNil)))) (aCons (wIxC 3 (wVar 4)) aNil)))))
  (wRet (wC (.bool false)))
  wNext))
  (wRet (wC (.bool true)))))))
theorem alone_split (C : Addr) : w_l_alone C = wSeq (wAsg 2 (vAnd (wCall 1 c_l_whole (aCons (wVar 0) aNil)) (vAnd (wOp fLe (wUn fNeg (wC (.int 4))) (wVar 0)) (wOp fLt (wVar 0) (wC (.int 0)))))) (w_alone2 C) := rfl
theorem alone_end (C : Addr) {v d3 d4 d5 : PyData} {nm b : Bool} {Qd : DQ} {Xd : XQ} (o3 : LikeOk d3) (o4 : LikeOk d4) (o5 : LikeOk d5) (a3 : c_side_after C [.val v] (fun d => told d = d3) (fun x => ∃ w : Str, x = nu C w ∧ ref3 w = d3))
    (a4 : c_side_opposite C [.val v] (fun d => told d = d4) (fun x => ∃ w : Str, x = nu C w ∧ ref3 w = d4)) (a5 : c_place_letter C [.val v] (fun d => told d = d5) (fun x => ∃ w : Str, x = nu C w ∧ ref3 w = d5)) (h : Qd (.bool true)) :
    wAlone C (endsOf Qd Xd) [.val v, .val (.bool nm), .val (.bool b), .cell [told (.bool (isI v)), told (.bool (isQ v)), told (.bool (isQ v && topGt 1 v)), d3, d4, d5], .un] :=
  alone_fin C rfl (alone_all o3 o4 o5 a3 a4 a5) h
theorem alone_int (C : Addr) {i : Int} {nm : Bool} {Qd : DQ} {Xd : XQ} (hv : i.natAbs < 2 ^ 200) (h : Qd (.bool true)) : w_alone2 C (endsOf Qd Xd) [.val (.int i), .val (.bool nm), .val (.bool (decide (-4 ≤ i) && decide (i < 0))), .un, .un] := by
  unfold w_alone2
  refine sq_i ?_
  walk_at "hw"
  refine Exists.intro _ (And.intro rfl (And.intro (by decide) (Exists.intro _ (And.intro rfl (And.intro (by decide) (And.intro (by decide) (sq_i ?_)))))))
  walk_at "hw"
  refine Exists.intro _ (And.intro rfl (And.intro (fun z => Bool.noConfusion z) (fun _ => And.intro (by decide) (And.intro (by decide) (sq_i ?_)))))
  walk_at "hw"
  have is : isS (.int i) = (decide (-4 ≤ i) && decide (i < 0)) := by
    simp only [isS]
    rw [Bool.eq_iff_iff]
    simp only [Bool.and_eq_true, decide_eq_true_eq]
    omega
  refine ⟨fun hs => ?_, fun hs => ?_⟩
  · have h12 : -4 ≤ i ∧ i ≤ -1 := by
      simp only [Bool.and_eq_true, decide_eq_true_eq] at hs
      omega
    obtain ⟨d5, x5, rfl⟩ := side_val (i := i) (k := 5) (.inl rfl) h12.1 h12.2
    obtain ⟨d6, x6, rfl⟩ := side_val (i := i) (k := 6) (.inr rfl) h12.1 h12.2
    rw [if_pos rfl] at x5
    rw [if_neg (by decide)] at x6
    obtain ⟨c, y1, y2⟩ := letter_at h12.1 h12.2
    have is1 : isS (.int i) = true := by rw [is, hs]
    refine sq_i ?_
    walk_at "hw"
    refine And.intro (by decide) (Exists.intro _ (And.intro x5 (And.intro (by decide) (And.intro (by decide) (sq_i ?_)))))
    walk_at "hw"
    refine And.intro (by decide) (Exists.intro _ (And.intro x6 (And.intro (by decide) (And.intro (by decide) ?_))))
    refine Exists.intro _ (And.intro (by decide) (And.intro y1 (And.intro (by decide) (And.intro (by decide) ?_))))
    rw [← y2]
    exact alone_end C (ok_told (.inr (.inl ⟨_, rfl⟩))) (ok_told (.inr (.inl ⟨_, rfl⟩))) (ok_told (.inr (.inr ⟨_, rfl, shp_letter⟩))) ⟨_, rfl, (fun z => by rw [is1] at z; cases z), (fun j e _ _ => by cases e; rfl)⟩ ⟨_, rfl, (fun z => by rw [is1] at z; cases z), (fun j e _ _ => by cases e; rfl)⟩
        ⟨_, rfl, (fun z => by rw [is1] at z; cases z), (fun j e _ _ => by cases e; rfl), (fun n e => by cases e; omega)⟩ h
  · have is0 : isS (.int i) = false := by rw [is, hs]
    refine sq_i ?_
    walk_at "hw"
    refine And.intro (by decide) (And.intro (by decide) (sq_i ?_))
    walk_at "hw"
    refine And.intro (by decide) (And.intro (by decide) ?_)
    have aft : ∀ k : Int, cSide C k [.val (.int i)] (fun d => told d = ref3 "side") (fun x => ∃ w : Str, x = nu C w ∧ ref3 w = ref3 "side") := fun k =>
      ⟨_, rfl, (fun _ => ⟨"side", rfl, rfl⟩), (fun j e j1 j2 => by cases e; rw [is] at is0; simp only [Bool.and_eq_false_imp, decide_eq_true_eq, decide_eq_false_iff_not] at is0; have := is0 j1; omega)⟩
    refine Exists.intro _ (And.intro rfl (And.intro (fun _ => And.intro (fun h0 => ?_) (fun h0 => ?_)) (fun z => Bool.noConfusion z)))
    · have h0 := of_decide_eq_true h0
      obtain ⟨n, rfl⟩ := Int.eq_ofNat_of_zero_le h0
      refine And.intro ?_ (And.intro (by decide) (And.intro (by decide) ?_))
      · exact Nat.lt_of_lt_of_le (PySem.Flt.log2_lt_of (k := 200) (by decide) hv) (by decide)
      · rw [str_int]
        have hn : n < 10 ^ 90 := Nat.lt_of_lt_of_le (show n < 2 ^ 200 from hv) (by decide)
        exact alone_end C (ok_ref shp_side) (ok_ref shp_side) (ok_told (.inr (.inr ⟨_, rfl, shp_dec n⟩))) (aft 5) (aft 6)
          ⟨_, rfl, (fun z => by simp [isN] at z), (fun j e j1 j2 => by cases e; omega), (fun m e => by cases e; exact ⟨hn, rfl⟩)⟩ h
    · have h0 := of_decide_eq_false h0
      refine And.intro (by decide) (And.intro (by decide) ?_)
      exact alone_end C (ok_ref shp_side) (ok_ref shp_side) (ok_ref shp_place) (aft 5) (aft 6)
        ⟨_, rfl, (fun _ => ⟨"place", rfl, rfl⟩), (fun j e j1 j2 => by cases e; rw [is] at is0; simp only [Bool.and_eq_false_imp, decide_eq_true_eq, decide_eq_false_iff_not] at is0; have := is0 j1; omega), (fun m e => by cases e; omega)⟩ h
theorem alone_oth (C : Addr) {v : PyData} {nm : Bool} {Qd : DQ} {Xd : XQ} (hv : isI v = false) (h : Qd (.bool true)) : w_alone2 C (endsOf Qd Xd) [.val v, .val (.bool nm), .val (.bool false), .un, .un] := by
  have is0 : isS v = false := by cases v <;> first | rfl | cases hv
  have in0 : isN v = false := by cases v <;> first | rfl | cases hv
  have no : ∀ i : Int, v ≠ .int i := fun i e => by rw [e] at hv; cases hv
  have aft : ∀ k : Int, cSide C k [.val v] (fun d => told d = ref3 "side") (fun x => ∃ w : Str, x = nu C w ∧ ref3 w = ref3 "side") := fun k =>
    ⟨_, rfl, (fun _ => ⟨"side", rfl, rfl⟩), (fun j e j1 j2 => (no j e).elim)⟩
  have last : wAlone C (endsOf Qd Xd) [.val v, .val (.bool nm), .val (.bool false), .cell [told (.bool (isI v)), told (.bool (isQ v)), told (.bool (isQ v && topGt 1 v)), ref3 "side", ref3 "side", ref3 "place"], .un] :=
    alone_end C (ok_ref shp_side) (ok_ref shp_side) (ok_ref shp_place) (aft 5) (aft 6) ⟨_, rfl, (fun _ => ⟨"place", rfl, rfl⟩), (fun j e j1 j2 => (no j e).elim), (fun m e => (no _ e).elim)⟩ h
  unfold w_alone2
  refine sq_i ?_
  walk_at "hw"
  refine Exists.intro _ (And.intro rfl (And.intro (by decide) (Exists.intro _ (And.intro rfl (And.intro (by decide) (And.intro (by decide) (sq_i ?_)))))))
  walk_at "hw"
  have tail : ∀ b, b = (isQ v && topGt 1 v) → 2 ≤ 16777216 ∧ True := fun _ _ => ⟨by decide, trivial⟩
  refine Exists.intro _ (And.intro rfl ?_)
  cases hq : isQ v with
  | true =>
    obtain ⟨q, rfl, iq⟩ := isQ_inv hq
    refine And.intro (fun _ => ?_) (fun z => Bool.noConfusion z)
    refine Exists.intro _ (And.intro rfl ?_)
    have e1 : (isQ (dq q) && topGt 1 (dq q)) = decide (0 < q.1) := by
      rw [isQ_dq iq]
      show (true && decide (1 ≤ q.1)) = _
      rw [Bool.true_and, decide_eq_decide]
      omega
    rw [e1, isQ_dq iq] at last
    refine And.intro (by decide) (And.intro (by decide) (sq_i ?_))
    walk_at "hw"
    refine sq_i ?_
    walk_at "hw"
    refine And.intro (by decide) (And.intro (by decide) (sq_i ?_))
    walk_at "hw"
    refine And.intro (by decide) (And.intro (by decide) ?_)
    refine Exists.intro _ (And.intro rfl (And.intro (fun z => Bool.noConfusion z) (fun _ => And.intro (by decide) (And.intro (by decide) last))))
  | false =>
    rw [hq] at last
    refine And.intro (fun z => Bool.noConfusion z) (fun _ => ?_)
    refine And.intro (by decide) (And.intro (by decide) (sq_i ?_))
    walk_at "hw"
    refine sq_i ?_
    walk_at "hw"
    refine And.intro (by decide) (And.intro (by decide) (sq_i ?_))
    walk_at "hw"
    refine And.intro (by decide) (And.intro (by decide) ?_)
    refine Exists.intro _ (And.intro rfl (And.intro (fun z => by rw [hv] at z; cases z) (fun _ => And.intro (by decide) (And.intro (by decide) last))))
theorem r_l_alone (C : Addr) : ∀ ss Qd Xd, c_l_alone C ss Qd Xd → w_l_alone C (endsOf Qd Xd) (startE 5 ss) := by
  rintro ss Qd Xd ⟨v, nm, rfl, hv, h⟩
  rw [alone_split]
  refine sq_i ?_
  walk_at "hw"
  refine Exists.intro _ (And.intro rfl ?_)
  cases hi : isI v with
  | true =>
    cases v with
    | int i =>
      refine And.intro (fun _ => ?_) (fun z => Bool.noConfusion z)
      have go := alone_int C (nm := nm) (Xd := Xd) (hv.int i rfl) h
      walk_at "hw"
      refine ⟨fun h4 => ?_, fun h4 => ?_⟩
      · rw [h4, Bool.true_and] at go; exact go
      · rw [h4, Bool.false_and] at go; exact go
    | _ => cases hi
  | false => exact And.intro (fun z => Bool.noConfusion z) (fun _ => alone_oth C hi h)
end K00
-- K00t
set_option Elab.async false
set_option linter.all false
set_option maxRecDepth 100000
set_option maxHeartbeats 4000000
open PySem L2
namespace K00
open Hw
local macro_rules | `(tactic| walk_at "hw") => `(tactic| simp only [wChain, wZf, wJoinRev, wIsx, wCallX, fStrI, fDivm, fMax2, wNext, wAsg, wAsgB, wAsgC, wRet, wRetN, wExp, wIfS, wFor, wWhile, wSetI, wApp, wPar, wFz, wRaise2, wTry, wVar, wC, wOp, wUn, wCB, wTup, wLst, wTst, Hw.wNot, wAnd, wOr, vAnd, vOr, vNot, wIf, wIsi, wCall, wCallK, wLc, wSeqI, wRng1, wZip, wLstOf, wSl, oNone, oSome, wRev, wIxC, wLenC, wTupC, wXf, wYes, aNil, aCons, aPool, datas, slot, startE, endsOf, setsE, wipeE, noC, noC1, bName, bTup, fAdd, fSub, fMulA, fMod, fDiv, fPow, fLt, fLe, fGt, fGe, fEq, fNe, fNeg, fIx, fGcd, fLen, fAbs, fInt1, fAll, fTupOf, fInt, fInt0, perm, List.set, List.length_cons, List.length_nil, List.replicate, List.cons_append, List.nil_append, List.map_cons, List.map_nil, Nat.reduceAdd, Nat.reduceSub, Nat.zero_add, Nat.sub_self, Option.map, Option.some.injEq, List.filterMap_cons, List.filterMap_nil, List.getElem?_cons_zero, List.getElem?_cons_succ, at0, at1, at2, true_and, and_true, eq_self, true_implies, reduceCtorEq, false_implies, implies_true, Bool.not_true, Bool.not_false, exists_eq_left, exists_eq_left'])
theorem val2_of {d : PyData} (h : Val d) : Val2 d := ⟨Nat.le_trans h.len (by decide), fun q e iq => (h.quo q e iq).mono (by decide)⟩
theorem val2_quo {q : Qo} (h : Bt 1000 q) : Val2 (dq q) := ⟨(show 2 ≤ 1000 by decide), fun r e _ => by cases dq_inj e; exact h⟩
theorem val2_int (i : Int) : Val2 (.int i) := ⟨Nat.zero_le _, fun q e _ => by cases e⟩
theorem val2_seq {d : PyData} (h : isQ d = false) (l : dlen d ≤ 1000) : Val2 d := ⟨l, fun q e iq => by rw [e, isQ_dq iq] at h; cases h⟩
theorem pair_i {C : Addr} {k : Int} {l r : PyData} {nm : Bool} {Q : DQ} {X : XQ} (k0 : 0 ≤ k) (k7 : k ≤ 7) (hl : Val2 l) (hr : Val2 r) (h : Q (.bool true)) : c_l_pair C [.val (.int k), .val l, .val r, .val (.bool nm)] Q X := ⟨k, l, r, nm, rfl, k0, k7, hl, hr, h⟩
/-- a row of values, as a tuple -/
theorem val2_tup {ds : List PyData} (l : ds.length ≤ 100) (h : ∀ d ∈ ds, Val d) : Val2 (.tuple ds) := ⟨Nat.le_trans l (by decide), fun q e _ => by
  have e : ds = [.int q.1, .int q.2] := PyData.tuple.inj e
  have h1 := (h (.int q.1) (by rw [e]; simp)).int q.1 rfl
  have h2 := (h (.int q.2) (by rw [e]; simp)).int q.2 rfl
  exact ⟨lt_pow_mono h1 (by decide), lt_pow_mono h2 (by decide)⟩⟩
def wl0 (C : Addr) : WS := (wAsg 2 (wOp fEq (wCall 2 c_l_take (aPool 1 (aCons (wC (.int 2)) aNil))) (wC (.int 1))))
def wl1 (C : Addr) : WS := (wAsg 3 (wLst (aCons (wCall 1 c_l_value (aPool 1 aNil)) (aCons (wCall 1 c_l_value (aPool 1 aNil)) (aCons (wCall 1 c_l_value (aPool 1 aNil)) aNil)))))
def wl2 (C : Addr) : WS := (wAsg 4 (wLst (aCons (wCall 1 c_l_small (aPool 1 aNil)) (aCons (wCall 1 c_l_small (aPool 1 aNil)) aNil))))
def wl3 (C : Addr) : WS := (wIfS (wTst (wOp fEq (wCall 2 c_l_take (aPool 1 (aCons (wC (.int 16)) aNil))) (wC (.int 15))))
  (wAsg 4 (wCall 1 c_l_long (aPool 1 aNil)))
  wNext)
def wl4 (C : Addr) : WS := (wFor (wSeqI (wOp fAdd (wVar 3) (wLst (aCons (wOp fSub (wCall 2 c_l_take (aPool 1 (aCons (wC (.int 9)) aNil))) (wC (.int 5))) (aCons (wCall 2 c_l_take (aPool 1 (aCons (wC (.int 61)) aNil))) aNil))))) [5] bName
  (wIfS (wNot (wTst (wCall 2 (c_l_alone C) (aCons (wVar 5) (aCons (wVar 2) aNil)))))
  (wRet (wC (.bool false)))
  wNext))
def wl5 (C : Addr) : WS := (wFor (wRng1 (wC (.int 5))) [6] bName
  (wSeq (wIfS (wOr (wNot (wTst (wCall 4 (c_l_pair C) (aCons (wVar 6) (aCons (wOp fIx (wVar 4) (wC (.int 0))) (aCons (wOp fIx (wVar 4) (wC (.int 1))) (aCons (wVar 2) aNil))))))) (wNot (wTst (wCall 4 (c_l_pair C) (aCons (wVar 6) (aCons (wOp fIx (wVar 4) (wC (.int 1))) (aCons (wOp fIx (wVar 4) (wC (.int 1))) (aCons (vNot (wVar 2)) aNil))))))))
  (wRet (wC (.bool false)))
  wNext)
  (wSeq (wIfS (wOr (wNot (wTst (wCall 4 (c_l_pair C) (aCons (wVar 6) (aCons (wOp fIx (wVar 4) (wC (.int 0))) (aCons (wOp fIx (wVar 3) (wC (.int 0))) (aCons (wVar 2) aNil))))))) (wNot (wTst (wCall 4 (c_l_pair C) (aCons (wVar 6) (aCons (wOp fIx (wVar 3) (wC (.int 1))) (aCons (wOp fIx (wVar 4) (wC (.int 1))) (aCons (wVar 2) aNil))))))))
  (wRet (wC (.bool false)))
  wNext)
  (wIfS (wNot (wTst (wCall 4 (c_l_pair C) (aCons (wVar 6) (aCons (wOp fIx (wVar 3) (wC (.int 2))) (aCons (wOp fIx (wVar 3) (wC (.int 0))) (aCons (vNot (wVar 2)) aNil)))))))
  (wRet (wC (.bool false)))
  wNext))))
def wl6 (C : Addr) : WS := (wAsg 7 (wCall 1 c_l_row (aPool 1 aNil)))
def wl7 (C : Addr) : WS := (wAsg 8 (wOp fIx (wLst (aCons (wUn fNeg (wC (.int 1))) (aCons (wC (.bool true)) (aCons (wC (.bool false)) (aCons (wC .none) (aCons (wC (.str "2")) (aCons (wTup (aCons (wC (.int 2)) aNil)) (aCons (wLst (aCons (wC (.int 1)) aNil)) (aCons (wOp fSub (wC (.int 0)) (wOp fPow (wC (.int 10)) (wC (.int 59)))) (aCons (wTup (aCons (wC (.int 2)) (aCons (wC (.int 1)) aNil))) aNil)))))))))) (wCall 2 c_l_take (aPool 1 (aCons (wC (.int 9)) aNil)))))
def wl8in (C : Addr) : WS := (wFor (wSeqI (wLst (aCons (wOp fIx (wVar 3) (wC (.int 1))) (aCons (wUn fNeg (wC (.int 5))) (aCons (wUn fNeg (wC (.int 4))) (aCons (wUn fNeg (wC (.int 1))) (aCons (wC (.int 0)) (aCons (wOp fSub (wCB fLen (aCons (wVar 7) aNil)) (wC (.int 1))) (aCons (wCB fLen (aCons (wVar 7) aNil)) (aCons (wC (.bool true)) aNil)))))))))) [5] bName
  (wIfS (wNot (wTst (wCall 4 (c_l_pair C) (aCons (wC (.int 7)) (aCons (wVar 9) (aCons (wVar 5) (aCons (wVar 2) aNil)))))))
  (wRet (wC (.bool false)))
  wNext))
def wl8 (C : Addr) : WS := (wFor (wSeqI (wLst (aCons (wCB fLen (aCons (wVar 7) aNil)) (aCons (wCB fMax2 (aCons (wC (.int 0)) (aCons (wOp fSub (wCB fLen (aCons (wVar 7) aNil)) (wC (.int 1))) aNil))) (aCons (wOp fAdd (wCB fLen (aCons (wVar 7) aNil)) (wC (.int 1))) (aCons (wC (.int 0)) (aCons (wOp fPow (wC (.int 10)) (wC (.int 59))) (aCons (wVar 8) aNil)))))))) [9] bName
  (wSeq (wFor (wSeqI (wLst (aCons (wC (.int 5)) (aCons (wC (.int 6)) aNil)))) [6] bName
  (wIfS (wOr (wNot (wTst (wCall 4 (c_l_pair C) (aCons (wVar 6) (aCons (wVar 9) (aCons (wCB fTupOf (aCons (wVar 7) aNil)) (aCons (wVar 2) aNil))))))) (wNot (wTst (wCall 4 (c_l_pair C) (aCons (wVar 6) (aCons (wVar 9) (aCons (wLstOf (wVar 7)) (aCons (vNot (wVar 2)) aNil))))))))
  (wRet (wC (.bool false)))
  wNext))
  (wSeq (wIfS (wOr (wNot (wTst (wCall 4 (c_l_pair C) (aCons (wC (.int 5)) (aCons (wVar 9) (aCons (wOp fIx (wVar 3) (wC (.int 0))) (aCons (wVar 2) aNil))))))) (wNot (wTst (wCall 4 (c_l_pair C) (aCons (wC (.int 6)) (aCons (wVar 9) (aCons (wTup aNil) (aCons (wVar 2) aNil))))))))
  (wRet (wC (.bool false)))
  wNext)
  (wl8in C))))
def wl9 (C : Addr) : WS := (wAsg 10 (wCall 2 c_l_take (aPool 1 (aCons (wC (.int 9)) aNil))))
def wl10 (C : Addr) : WS := (wRet (vAnd (wCall 2 c_l_papers (aCons (wVar 10) (aCons (wOp fAdd (wVar 10) (wC (.int 3))) aNil))) (wCall 2 c_l_errors (aCons (wVar 10) (aCons (wOp fAdd (wVar 10) (wC (.int 3))) aNil)))))
def wlt10 (C : Addr) : WS := wl10 C
def wlt9 (C : Addr) : WS := wSeq (wl9 C) (wlt10 C)
def wlt8 (C : Addr) : WS := wSeq (wl8 C) (wlt9 C)
def wlt7 (C : Addr) : WS := wSeq (wl7 C) (wlt8 C)
def wlt6 (C : Addr) : WS := wSeq (wl6 C) (wlt7 C)
def wlt5 (C : Addr) : WS := wSeq (wl5 C) (wlt6 C)
def wlt4 (C : Addr) : WS := wSeq (wl4 C) (wlt5 C)
def wlt3 (C : Addr) : WS := wSeq (wl3 C) (wlt4 C)
def wlt2 (C : Addr) : WS := wSeq (wl2 C) (wlt3 C)
def wlt1 (C : Addr) : WS := wSeq (wl1 C) (wlt2 C)
def wlt0 (C : Addr) : WS := wSeq (wl0 C) (wlt1 C)
theorem wl_eq (C : Addr) : w_law C = wlt0 C := rfl

theorem ex_i {α : Type} {a : α} {P : α → Prop} {q : Prop} (h : P a ∧ q) : ∃ b, P b ∧ q := ⟨a, h⟩
abbrev envL (nm : Bool) (vs gs s5 s6 s7 s8 s9 s10 : Sl) : List Sl := [.un, .pool, .val (.bool nm), vs, gs, s5, s6, s7, s8, s9, s10]
theorem t9 (C : Addr) {nm : Bool} {vs gs s5 s6 s7 s8 s9 s10 : Sl} {Qd : DQ} {Xd : XQ} (h : Qd (.bool true)) : wlt9 C (endsOf Qd Xd) (envL nm vs gs s5 s6 s7 s8 s9 s10) := by
  unfold wlt9 wlt10 wl9 wl10 envL
  refine sq_i ?_
  walk_at "hw"
  refine tk_i (by decide) (by decide) fun a a0 a1 => ?_
  refine ⟨a, a + 3, rfl, fun _ => ⟨a, a + 3, rfl, h⟩, fun z => Bool.noConfusion z⟩
theorem loop7 (C : Addr) {nm : Bool} {gs s5 s6 s8 s10 : Sl} {v0 v1 v2 c : PyData} {ds : List PyData} {Ed : WEnds} (vc : Val2 c) (h1 : Val2 v1) (hn : ∀ t5, Ed.nx (envL nm (.val (.list [v0, v1, v2])) gs t5 s6 (.val (.list ds)) s8 (.val c) s10)) :
    wl8in C Ed (envL nm (.val (.list [v0, v1, v2])) gs s5 s6 (.val (.list ds)) s8 (.val c) s10) := by
  unfold envL at hn ⊢
  unfold wl8in
  walk_at "hw"
  refine ⟨by decide, ?_⟩
  refine ⟨fun i env => ∃ t5, env = [.un, .pool, .val (.bool nm), .val (.list [v0, v1, v2]), gs, t5, s6, .val (.list ds), s8, .val c, s10], ⟨_, rfl⟩, ?_, ?_⟩
  · rintro i d env hi ⟨t5, rfl⟩
    walk_at "hw"
    have hd : Val2 d := by
      have := List.mem_of_getElem? hi
      simp only [List.mem_cons, List.not_mem_nil, or_false] at this
      rcases this with rfl | rfl | rfl | rfl | rfl | rfl | rfl | rfl
      · exact h1
      all_goals first | exact val2_int _ | exact ⟨Nat.zero_le _, fun q e _ => by cases e⟩
    exact pair_i (by decide) (by decide) vc hd ⟨fun z => Bool.noConfusion z, fun _ => ⟨_, rfl⟩⟩
  · rintro env ⟨t5, rfl⟩
    exact hn t5

def rowV (ds : List PyData) : Prop := ds.length ≤ 100 ∧ ∀ d ∈ ds, Val d
theorem val2_lst (ds : List PyData) : Val2 (.list ds) := ⟨Nat.zero_le _, fun q e _ => by cases e⟩
theorem t8 (C : Addr) {nm : Bool} {gs s5 s6 s9 s10 : Sl} {v0 v1 v2 bad : PyData} {ds : List PyData} {Qd : DQ} {Xd : XQ} (h : Qd (.bool true)) (h0 : Val2 v0) (h1 : Val2 v1) (hb : Val2 bad) (hr : rowV ds) :
    wlt8 C (endsOf Qd Xd) (envL nm (.val (.list [v0, v1, v2])) gs s5 s6 (.val (.list ds)) (.val bad) s9 s10) := by
  unfold wlt8
  refine sq_i ?_
  unfold wl8 envL
  walk_at "hw"
  refine ⟨by decide, by decide, ?_⟩
  refine ⟨fun i env => ∃ t5 t6 t9, env = [.un, .pool, .val (.bool nm), .val (.list [v0, v1, v2]), gs, t5, t6, .val (.list ds), .val bad, t9, s10], ⟨_, _, _, rfl⟩, ?_, ?_⟩
  · rintro i c env hi ⟨t5, t6, t9, rfl⟩
    have vc : Val2 c := by
      have := List.mem_of_getElem? hi
      simp only [List.mem_cons, List.not_mem_nil, or_false] at this
      rcases this with rfl | rfl | rfl | rfl | rfl | rfl
      · exact val2_int _
      · exact val2_int _
      · exact val2_int _
      · exact val2_int _
      · exact val2_int _
      · exact hb
    refine sq_i ?_
    walk_at "hw"
    refine ⟨by decide, ?_⟩
    refine ⟨fun i env => ∃ t6, env = [.un, .pool, .val (.bool nm), .val (.list [v0, v1, v2]), gs, t5, t6, .val (.list ds), .val bad, .val c, s10], ⟨_, rfl⟩, ?_, ?_⟩
    · rintro i d env hi ⟨t6, rfl⟩
      have hd : ∃ k : Int, d = PyData.int k ∧ 0 ≤ k ∧ k ≤ 7 := by
        have := List.mem_of_getElem? hi
        simp only [List.mem_cons, List.not_mem_nil, or_false] at this
        rcases this with rfl | rfl
        · exact ⟨5, rfl, by decide, by decide⟩
        · exact ⟨6, rfl, by decide, by decide⟩
      obtain ⟨k, rfl, k0, k7⟩ := hd
      walk_at "hw"
      refine pair_i k0 k7 vc (val2_tup hr.1 hr.2) ⟨fun z => Bool.noConfusion z, fun _ => ?_⟩
      exact pair_i k0 k7 vc (val2_lst ds) ⟨fun z => Bool.noConfusion z, fun _ => ⟨_, rfl⟩⟩
    · rintro env ⟨t6, rfl⟩
      refine sq_i ?_
      walk_at "hw"
      refine pair_i (by decide) (by decide) vc h0 ⟨fun z => Bool.noConfusion z, fun _ => ?_⟩
      refine ⟨by decide, ?_⟩
      refine pair_i (by decide) (by decide) vc ⟨Nat.zero_le _, fun q e _ => by cases e⟩ ⟨fun z => Bool.noConfusion z, fun _ => ?_⟩
      refine loop7 C (nm := nm) (gs := gs) (s5 := t5) (s6 := t6) (s8 := .val bad) (s10 := s10) (v0 := v0) (v1 := v1) (v2 := v2) (c := c) (ds := ds) vc h1 fun t5 => ?_
      exact ⟨_, _, _, rfl⟩
  · rintro env ⟨t5, t6, t9', rfl⟩
    exact t9 C h
theorem t6 (C : Addr) {nm : Bool} {gs s5 s6 s7 s8 s9 s10 : Sl} {v0 v1 v2 : PyData} {Qd : DQ} {Xd : XQ} (h : Qd (.bool true)) (h0 : Val2 v0) (h1 : Val2 v1) :
    wlt6 C (endsOf Qd Xd) (envL nm (.val (.list [v0, v1, v2])) gs s5 s6 s7 s8 s9 s10) := by
  unfold wlt6
  refine sq_i ?_
  unfold wl6 envL
  walk_at "hw"
  refine ⟨rfl, fun ds l hv => ?_⟩
  unfold wlt7
  refine sq_i ?_
  unfold wl7
  walk_at "hw"
  refine ⟨by decide, by decide, by decide, by decide, by decide, ?_⟩
  refine tk_i (by decide) (by decide) fun a a0 a1 => ?_
  have ha : a = 0 ∨ a = 1 ∨ a = 2 ∨ a = 3 ∨ a = 4 ∨ a = 5 ∨ a = 6 ∨ a = 7 ∨ a = 8 := by omega
  have go : ∀ bad, Val2 bad → wlt8 C (endsOf Qd Xd) (envL nm (.val (.list [v0, v1, v2])) gs s5 s6 (.val (.list ds)) (.val bad) s9 s10) := fun bad hb => t8 C h h0 h1 hb ⟨l, hv⟩
  rcases ha with rfl | rfl | rfl | rfl | rfl | rfl | rfl | rfl | rfl
  · exact ⟨_, rfl, go _ (val2_int _)⟩
  · exact ⟨_, rfl, go _ ⟨Nat.zero_le _, fun q e _ => by cases e⟩⟩
  · exact ⟨_, rfl, go _ ⟨Nat.zero_le _, fun q e _ => by cases e⟩⟩
  · exact ⟨_, rfl, go _ ⟨Nat.zero_le _, fun q e _ => by cases e⟩⟩
  · exact ⟨_, rfl, go _ ⟨Nat.zero_le _, fun q e _ => by cases e⟩⟩
  · exact ⟨_, rfl, go _ ⟨(show 1 ≤ 1000 by decide), fun q e _ => by simp [dq] at e⟩⟩
  · exact ⟨_, rfl, go _ ⟨Nat.zero_le _, fun q e _ => by cases e⟩⟩
  · exact ⟨_, rfl, go _ (val2_int _)⟩
  · exact ⟨_, rfl, go _ ⟨(show 2 ≤ 1000 by decide), fun q e _ => by
      simp [dq] at e
      obtain ⟨e1, e2⟩ := e
      unfold Bt
      rw [← e1, ← e2]
      exact ⟨Nat.lt_of_lt_of_le (by decide : (2 : Int).natAbs < 2 ^ 2) (Nat.pow_le_pow_right (by decide) (by decide)), Nat.lt_of_lt_of_le (by decide : (1 : Int).natAbs < 2 ^ 2) (Nat.pow_le_pow_right (by decide) (by decide))⟩⟩⟩
theorem t5 (C : Addr) {nm : Bool} {s5 s6 s7 s8 s9 s10 : Sl} {v0 v1 v2 : PyData} {q p : Qo} {Qd : DQ} {Xd : XQ} (h : Qd (.bool true)) (h0 : Val2 v0) (h1 : Val2 v1) (h2 : Val2 v2) (bq : Bt 1000 q) (bp : Bt 1000 p) :
    wlt5 C (endsOf Qd Xd) (envL nm (.val (.list [v0, v1, v2])) (.val (.list [dq q, dq p])) s5 s6 s7 s8 s9 s10) := by
  unfold wlt5
  refine sq_i ?_
  unfold wl5 envL
  have vq := val2_quo bq
  have vp := val2_quo bp
  walk_at "hw"
  refine ⟨by decide, by decide, ?_⟩
  refine ⟨fun i env => ∃ t6, env = [.un, .pool, .val (.bool nm), .val (.list [v0, v1, v2]), .val (.list [dq q, dq p]), s5, t6, s7, s8, s9, s10], ⟨_, rfl⟩, ?_, ?_⟩
  · rintro i d env hi ⟨t6, rfl⟩
    obtain ⟨hi0, rfl⟩ := rg_get hi
    have k0 : (0 : Int) ≤ (i : Nat) := by omega
    have k7 : ((i : Nat) : Int) ≤ 7 := by have : i < 5 := hi0; omega
    refine sq_i ?_
    walk_at "hw"
    refine pair_i k0 k7 vq vp ⟨fun z => Bool.noConfusion z, fun _ => ?_⟩
    refine pair_i k0 k7 vp vp ⟨fun z => Bool.noConfusion z, fun _ => ?_⟩
    refine sq_i ?_
    walk_at "hw"
    refine pair_i k0 k7 vq h0 ⟨fun z => Bool.noConfusion z, fun _ => ?_⟩
    refine pair_i k0 k7 h1 vp ⟨fun z => Bool.noConfusion z, fun _ => ?_⟩
    exact pair_i k0 k7 h2 h0 ⟨fun z => Bool.noConfusion z, fun _ => ⟨_, rfl⟩⟩
  · rintro env ⟨t6', rfl⟩
    exact t6 C h h0 h1
theorem t4 (C : Addr) {nm : Bool} {s5 s6 s7 s8 s9 s10 : Sl} {v0 v1 v2 : PyData} {q p : Qo} {Qd : DQ} {Xd : XQ} (h : Qd (.bool true)) (h0 : Val v0) (h1 : Val v1) (h2 : Val v2) (bq : Bt 1000 q) (bp : Bt 1000 p) :
    wlt4 C (endsOf Qd Xd) (envL nm (.val (.list [v0, v1, v2])) (.val (.list [dq q, dq p])) s5 s6 s7 s8 s9 s10) := by
  unfold wlt4
  refine sq_i ?_
  unfold wl4 envL
  walk_at "hw"
  refine tk_i (by decide) (by decide) fun a a0 a1 => ?_
  walk_at "hw"
  refine tk_i (by decide) (by decide) fun b b0 b1 => ?_
  refine ⟨by decide, by decide, ?_⟩
  have vi : ∀ i : Int, i.natAbs < 100 → Val (.int i) := fun i hi => ⟨fun j e => by cases e; exact Nat.lt_of_lt_of_le hi (by decide), fun q e _ => (by cases e), Nat.zero_le _⟩
  refine ⟨fun i env => ∃ t5, env = [.un, .pool, .val (.bool nm), .val (.list [v0, v1, v2]), .val (.list [dq q, dq p]), t5, s6, s7, s8, s9, s10], ⟨_, rfl⟩, ?_, ?_⟩
  · rintro i d env hi ⟨t5, rfl⟩
    have hd : Val d := by
      have := List.mem_of_getElem? hi
      simp only [List.mem_cons, List.not_mem_nil, or_false] at this
      rcases this with rfl | rfl | rfl | rfl | rfl
      · exact h0
      · exact h1
      · exact h2
      · exact vi _ (by omega)
      · exact vi _ (by omega)
    walk_at "hw"
    exact ⟨d, nm, rfl, hd, ⟨fun z => Bool.noConfusion z, fun _ => ⟨_, rfl⟩⟩⟩
  · rintro env ⟨t5', rfl⟩
    exact t5 C h (val2_of h0) (val2_of h1) (val2_of h2) bq bp
theorem r_law (C : Addr) : ∀ (Qd : DQ) (Xd : XQ), Qd (.bool true) → w_law C (endsOf Qd Xd) [.un, .pool, .un, .un, .un, .un, .un, .un, .un, .un, .un] := by
  intro Qd Xd h
  rw [wl_eq]
  unfold wlt0
  refine sq_i ?_
  unfold wl0
  walk_at "hw"
  refine tk_i (by decide) (by decide) fun r r0 r1 => ?_
  simp only [shp_int, eqv_int, true_and]
  unfold wlt1
  refine sq_i ?_
  generalize decide (r = 1) = nm
  unfold wl1
  walk_at "hw"
  refine ⟨rfl, fun v0 h0 => ⟨rfl, fun v1 h1 => ⟨rfl, fun v2 h2 => ?_⟩⟩⟩
  refine And.intro (by decide) ?_
  unfold wlt2
  refine sq_i ?_
  unfold wl2
  walk_at "hw"
  refine ⟨rfl, fun q iq bq => ⟨rfl, fun p ip bp => ?_⟩⟩
  refine And.intro (by decide) ?_
  unfold wlt3
  refine sq_i ?_
  unfold wl3
  walk_at "hw"
  refine tk_i (by decide) (by decide) fun a a0 a1 => ?_
  simp only [shp_int, eqv_int, true_and]
  refine ⟨fun _ => ⟨rfl, fun q p iq ip bq bp => ?_⟩, fun _ => ?_⟩
  · exact t4 C h h0 h1 h2 bq bp
  · exact t4 C h h0 h1 h2 (bq.mono (by decide)) (bp.mono (by decide))
end K00
-- K00u
set_option Elab.async false
set_option linter.all false
set_option maxRecDepth 100000
set_option maxHeartbeats 4000000
open PySem L2
namespace K00
open Hw
section
variable {P : Program} {w : World} {K : PySem.W.Frag} {mg : Str → Option Value} {base : Heap} {C fI : Addr} {fdI : FuncData} {ad : Ads}
theorem f_l_take {a_l_take a_l_mixed : Addr} {fd_l_take fd_l_mixed : FuncData} (T : Tx K mg C fI fdI ad) (F : Fun K "_law_take" "_law_take" s_l_take a_l_take fd_l_take)
    (H_l_mixed : Cl P w K mg base 1 "_law_mixed" s_l_mixed ["_law_cell", "_law_tick"] 2 c_l_mixed a_l_mixed fd_l_mixed) : FnOk P w K mg base (L2N.CX P w) 2 a_l_take fd_l_take ["_law_pool_here", "_law_size"] (spC K 2 c_l_take) := by
  refine FnOk.imp (sp := spTk) ?_ take_imp
  obtain ⟨oc, od, kV, doc, pm, an, cdv, ct, osl, rfl, lk, hcd⟩ := F.ex
  refine fn_of lk hcd sc_l_take (fun vs H Q E h => by obtain ⟨p, l, a, b, c, n, m, xs, rfl, _⟩ := h; rfl) fun A outer s H vs Q E hr h => ?_
  obtain ⟨p, l, a, b, c, n, m, xs, rfl, m0, m9, ne, hp, hl, k⟩ := h
  have tk := L2N.takes_of (X := cxOf (L2N.CX P w) P w K mg base N_l_take "_law_take" (defScope s_l_take) a_l_take cdv A outer s H E) rfl rfl rfl rfl
  have loc : ∀ {q : Prop}, q → q := fun h => h
  refine ⟨_, pss_cons (ps_if (pt_cmpR op_eq (pe_ix ix_list (pv 0) pe_int (fun _ _ => rfl)) pe_int (nomark _)) (pss_one (ps_ret pe_int)) pss_nil)
    (pss_cons (ps_if (PW.pt (pw_and (pt_cmpR op_eq (pe_ix ix_list (pv 0) pe_int (fun _ _ => rfl)) pe_int (nomark _)) (pw_and1 (pt_cmpR op_gt (pe_callB call_len_seq (by rfl) T.b_len PySem.boot_len (pa_cons (pe_ix ix_list (pv 0) pe_int (fun _ _ => rfl)) pa_nil)) pe_int (nomark _)))))
      (pss_cons (ps_set (i := 2) sc_l_take.nd rfl (Or.inl rfl) (pe_callB call_abs (by rfl) T.b_abs (by decide +kernel) (pa_cons (pe_bm PySem.F.plainAttrs_list PySem.F.slot_list_pop PySem.F.type_list_pop mt_popAt (pe_ix ix_list (pv 0) pe_int (fun _ _ => rfl)) (pa_cons pe_int pa_nil)) pa_nil)))
      (pss_cons (ps_if (pt_cmpR op_lt (pv 2) (pe_op op_pow pe_int pe_int) (nomark _))
        (pss_cons (ps_asg (pe_op op_add (pe_ix ix_list (pv 0) pe_int (fun _ _ => rfl)) pe_int) (pg_sub (pv 0) pe_int set_list))
        (pss_one (ps_ret (pe_op op_mod (pe_callTy call_int1 (by rfl) T.b_int (by decide +kernel) (pa_cons (pe_callS H_l_mixed.F (hr.mono (by decide)) (by rfl) H_l_mixed.m H_l_mixed.kp H_l_mixed.b (fun σ => L2N.passAt tk σ) (pa_cons (pv 2) (pa_cons (pe_ix ix_list (pv 0) pe_int (fun _ _ => rfl)) pa_nil))) pa_nil)) (pv 1))))) pss_nil)
      (pss_one (ps_asg (pe_op op_mod (pe_callTy call_int1 (by rfl) T.b_int (by decide +kernel) (pa_cons (pv 2) pa_nil)) (pe_op op_mulW (pe_op op_mulW (pe_op op_pow pe_int pe_int) (pe_op op_pow pe_int pe_int)) (pe_op op_pow pe_int pe_int))) (pg_sub (pv 0) pe_int set_list))))) pss_nil)
    (pss_cons (ps_if (pt_cmpR op_gt (pe_ix ix_list (pv 0) pe_int (fun _ _ => rfl)) pe_int (nomark _))
      (pss_cons (ps_set (i := 3) sc_l_take.nd rfl (Or.inl rfl) (pe_op op_mod (pe_callTy call_int1 (by rfl) T.b_int (by decide +kernel) (pa_cons (pe_ix ix_list (pv 0) pe_int (fun _ _ => rfl)) pa_nil)) (pv 1)))
      (pss_cons (ps_asg (pe_op op_fdiv (pe_ix ix_list (pv 0) pe_int (fun _ _ => rfl)) (pv 1)) (pg_sub (pv 0) pe_int set_list))
      (pss_one (ps_ret (pv 3))))) pss_nil)
    (pss_cons (ps_asg (pe_op op_add (pe_ix ix_list (pv 0) pe_int (fun _ _ => rfl)) pe_int) (pg_sub (pv 0) pe_int set_list))
    (pss_one (ps_ret (pe_op op_mod (pe_callTy call_int1 (by rfl) T.b_int (by decide +kernel) (pa_cons (pe_callS H_l_mixed.F (hr.mono (by decide)) (by rfl) H_l_mixed.m H_l_mixed.kp H_l_mixed.b (fun σ => L2N.passAt tk σ) (pa_cons (pe_ix ix_list (pv 0) pe_int (fun _ _ => rfl)) (pa_cons (pe_ix ix_list (pv 0) pe_int (fun _ _ => rfl)) pa_nil))) pa_nil)) (pv 1))))))), ?_⟩
  have fr0 : ∀ (d : Addr) (o : HO), d ≠ p → d ≠ l → H d = some o → H d = some o := fun _ _ _ _ z => z
  -- if pool[4] == 0: return 0
  refine ⟨.ref p, rfl, p, _, 4, .int n, rfl, rfl, Evl.sq_of hp, rfl, rfl, _, rfl, ite2 (fun e0 => ?_) (fun e0 => ?_)⟩
  · exact k a b xs 0 H (Int.le_refl _) m0 hp hl fun _ _ _ _ z => z
  -- if pool[1] == 0 and len(pool[0]) > 0
  refine ⟨.ref p, rfl, p, _, 1, .int a, rfl, rfl, Evl.sq_of hp, rfl, rfl, _, rfl, ite2 (fun e1 => ?_) (fun e1 => ?_)⟩
  · refine ⟨.ref p, rfl, p, _, 0, .ref l, rfl, rfl, Evl.sq_of hp, rfl, l, xs.map V.int, rfl, .inl (Evl.sq_of hl), _, _, rfl, rfl, _, rfl, ite2 (fun e2 => ?_) (fun e2 => ?_)⟩
    · have e2' : (0 : Int) < ((xs.map V.int).length : Int) := of_decide_eq_true e2
      rw [List.length_map] at e2'
      match xs, e2', hl with
      | x :: xr, _, hl =>
        -- cell = abs(pool[0].pop(0))
        refine ⟨.ref p, rfl, p, _, 0, .ref l, rfl, rfl, Evl.sq_of hp, rfl, .inl ⟨rfl, _, Evl.sq_of hl⟩, l, _, 0, 0, .int x, rfl, rfl, hl, by decide, by decide, (by simp [seqIndex?]), rfl, x, rfl, ?_⟩
        have npl : p ≠ l := ne
        have hp1 : (upd H l (.lst ((List.map V.int (x :: xr)).eraseIdx 0))) p = some (.lst [.ref l, .int a, .int b, .int c, .int n]) := by rw [upd_ne npl]; exact hp
        have hl1 : (upd H l (.lst ((List.map V.int (x :: xr)).eraseIdx 0))) l = some (.lst (xr.map V.int)) := upd_same
        have fr1 : ∀ (d : Addr) (o : HO), d ≠ p → d ≠ l → H d = some o → (upd H l (.lst ((List.map V.int (x :: xr)).eraseIdx 0))) d = some o := fun d o n1 n2 z => by rw [upd_ne n2]; exact z
        generalize upd H l (.lst ((List.map V.int (x :: xr)).eraseIdx 0)) = H1 at hp1 hl1 fr1 ⊢
        -- if cell < 10 ** 18
        refine ⟨_, rfl, _, _, rfl, rfl, ⟨by decide, by decide, by decide⟩, _, _, rfl, rfl, _, rfl, ite2 (fun e3 => ?_) (fun e3 => ?_)⟩
        · refine ⟨.ref p, rfl, p, _, 2, .int b, rfl, rfl, Evl.sq_of hp1, rfl, _, _, rfl, rfl, .ref p, rfl, p, _, 2, 2, rfl, rfl, hp1, rfl, ?_⟩
          refine ⟨_, rfl, .ref p, rfl, p, _, 2, .int (b + 1), rfl, rfl, Evl.sq_of upd_same, rfl, ?_⟩
          refine call_int2 fun r H2 s2 => .inl ⟨r, rfl, _, rfl, _, _, rfl, rfl, m0, ?_⟩
          exact k a _ xr _ _ (Int.emod_nonneg _ (by omega)) (Int.emod_lt_of_pos _ m0) (s2 _ _ upd_same) (s2 _ _ (by rw [upd_ne ne.symm]; exact hl1)) fun d o n1 n2 z => s2 _ _ (by rw [upd_ne n1]; exact fr1 d o n1 n2 z)
        · -- pool[1] = int(cell) % 10 ** 192
          refine ⟨_, rfl, .inl ⟨_, rfl, _, _, rfl, rfl, ⟨by decide, by decide, by decide⟩, _, _, rfl, rfl, ⟨by decide, by decide, by decide⟩, _, _, rfl, rfl, (show (10 ^ Int.toNat 64 : Int).natAbs.log2 + (10 ^ Int.toNat 64 : Int).natAbs.log2 < 1000000 by decide +kernel), _, _, rfl, rfl, ⟨by decide, by decide, by decide⟩, _, _, rfl, rfl, (show (10 ^ Int.toNat 64 * 10 ^ Int.toNat 64 : Int).natAbs.log2 + (10 ^ Int.toNat 64 : Int).natAbs.log2 < 1000000 by decide +kernel), _, _, rfl, rfl, (show (0 : Int) < 10 ^ Int.toNat 64 * 10 ^ Int.toNat 64 * 10 ^ Int.toNat 64 by decide +kernel), ?_⟩⟩
          refine ⟨.ref p, rfl, p, _, 1, 1, rfl, rfl, hp1, rfl, ?_⟩
          dsimp only
          generalize hA : (if x < 0 then -x else x) % (10 ^ Int.toNat 64 * 10 ^ Int.toNat 64 * 10 ^ Int.toNat 64) = A1
          have hp2 : (upd H1 p (.lst ([V.ref l, .int a, .int b, .int c, .int n].set 1 (.int A1)))) p = some (.lst [.ref l, .int A1, .int b, .int c, .int n]) := upd_same
          have hl2 : (upd H1 p (.lst ([V.ref l, .int a, .int b, .int c, .int n].set 1 (.int A1)))) l = some (.lst (xr.map V.int)) := by rw [upd_ne ne.symm]; exact hl1
          have fr2 : ∀ (d : Addr) (o : HO), d ≠ p → d ≠ l → H d = some o → (upd H1 p (.lst ([V.ref l, .int a, .int b, .int c, .int n].set 1 (.int A1)))) d = some o := fun d o n1 n2 z => by rw [upd_ne n1]; exact fr1 d o n1 n2 z
          generalize upd H1 p (.lst ([V.ref l, .int a, .int b, .int c, .int n].set 1 (.int A1))) = H3 at hp2 hl2 fr2 ⊢
          -- if pool[1] > 0
          refine ⟨.ref p, rfl, p, _, 1, .int A1, rfl, rfl, Evl.sq_of hp2, rfl, _, _, rfl, rfl, _, rfl, ite2 (fun e3 => ?_) (fun e3 => ?_)⟩
          · -- the number's next digit
            refine ⟨.ref p, rfl, p, _, 1, .int A1, rfl, rfl, Evl.sq_of hp2, rfl, .inl ⟨_, rfl, _, rfl, _, _, rfl, rfl, m0, ?_⟩⟩
            refine ⟨.ref p, rfl, p, _, 1, .int A1, rfl, rfl, Evl.sq_of hp2, rfl, _, rfl, _, _, rfl, rfl, ⟨m0, m9⟩, .ref p, rfl, p, _, 1, 1, rfl, rfl, hp2, rfl, ?_⟩
            refine ⟨_, rfl, ?_⟩
            exact k _ b xr _ _ (Int.emod_nonneg _ (by omega)) (Int.emod_lt_of_pos _ m0) upd_same (by rw [upd_ne ne.symm]; exact hl2) fun d o n1 n2 z => by rw [upd_ne n1]; exact fr2 d o n1 n2 z
          · refine ⟨.ref p, rfl, p, _, 2, .int b, rfl, rfl, Evl.sq_of hp2, rfl, _, _, rfl, rfl, .ref p, rfl, p, _, 2, 2, rfl, rfl, hp2, rfl, ?_⟩
            refine ⟨.ref p, rfl, p, _, 3, .int c, rfl, rfl, Evl.sq_of upd_same, rfl, .ref p, rfl, p, _, 2, .int (b + 1), rfl, rfl, Evl.sq_of upd_same, rfl, ?_⟩
            refine call_int2 fun r H2 s2 => .inl ⟨r, rfl, _, rfl, _, _, rfl, rfl, m0, ?_⟩
            exact k A1 _ xr _ _ (Int.emod_nonneg _ (by omega)) (Int.emod_lt_of_pos _ m0) (s2 _ _ upd_same) (s2 _ _ (by rw [upd_ne ne.symm]; exact hl2)) fun d o n1 n2 z => s2 _ _ (by rw [upd_ne n1]; exact fr2 d o n1 n2 z)
    · skip
      -- if pool[1] > 0
      refine ⟨.ref p, rfl, p, _, 1, .int a, rfl, rfl, Evl.sq_of hp, rfl, _, _, rfl, rfl, _, rfl, ite2 (fun e3 => ?_) (fun e3 => ?_)⟩
      · -- the number's next digit
        refine ⟨.ref p, rfl, p, _, 1, .int a, rfl, rfl, Evl.sq_of hp, rfl, .inl ⟨_, rfl, _, rfl, _, _, rfl, rfl, m0, ?_⟩⟩
        refine ⟨.ref p, rfl, p, _, 1, .int a, rfl, rfl, Evl.sq_of hp, rfl, _, rfl, _, _, rfl, rfl, ⟨m0, m9⟩, .ref p, rfl, p, _, 1, 1, rfl, rfl, hp, rfl, ?_⟩
        refine ⟨_, rfl, ?_⟩
        exact k _ b xs _ _ (Int.emod_nonneg _ (by omega)) (Int.emod_lt_of_pos _ m0) upd_same (by rw [upd_ne ne.symm]; exact hl) fun d o n1 n2 z => by rw [upd_ne n1]; exact fr0 d o n1 n2 z
      · refine ⟨.ref p, rfl, p, _, 2, .int b, rfl, rfl, Evl.sq_of hp, rfl, _, _, rfl, rfl, .ref p, rfl, p, _, 2, 2, rfl, rfl, hp, rfl, ?_⟩
        refine ⟨.ref p, rfl, p, _, 3, .int c, rfl, rfl, Evl.sq_of upd_same, rfl, .ref p, rfl, p, _, 2, .int (b + 1), rfl, rfl, Evl.sq_of upd_same, rfl, ?_⟩
        refine call_int2 fun r H2 s2 => .inl ⟨r, rfl, _, rfl, _, _, rfl, rfl, m0, ?_⟩
        exact k a _ xs _ _ (Int.emod_nonneg _ (by omega)) (Int.emod_lt_of_pos _ m0) (s2 _ _ upd_same) (s2 _ _ (by rw [upd_ne ne.symm]; exact hl)) fun d o n1 n2 z => s2 _ _ (by rw [upd_ne n1]; exact fr0 d o n1 n2 z)
  · refine iteF ?_
    -- if pool[1] > 0
    refine ⟨.ref p, rfl, p, _, 1, .int a, rfl, rfl, Evl.sq_of hp, rfl, _, _, rfl, rfl, _, rfl, ite2 (fun e3 => ?_) (fun e3 => ?_)⟩
    · -- the number's next digit
      refine ⟨.ref p, rfl, p, _, 1, .int a, rfl, rfl, Evl.sq_of hp, rfl, .inl ⟨_, rfl, _, rfl, _, _, rfl, rfl, m0, ?_⟩⟩
      refine ⟨.ref p, rfl, p, _, 1, .int a, rfl, rfl, Evl.sq_of hp, rfl, _, rfl, _, _, rfl, rfl, ⟨m0, m9⟩, .ref p, rfl, p, _, 1, 1, rfl, rfl, hp, rfl, ?_⟩
      refine ⟨_, rfl, ?_⟩
      exact k _ b xs _ _ (Int.emod_nonneg _ (by omega)) (Int.emod_lt_of_pos _ m0) upd_same (by rw [upd_ne ne.symm]; exact hl) fun d o n1 n2 z => by rw [upd_ne n1]; exact fr0 d o n1 n2 z
    · refine ⟨.ref p, rfl, p, _, 2, .int b, rfl, rfl, Evl.sq_of hp, rfl, _, _, rfl, rfl, .ref p, rfl, p, _, 2, 2, rfl, rfl, hp, rfl, ?_⟩
      refine ⟨.ref p, rfl, p, _, 3, .int c, rfl, rfl, Evl.sq_of upd_same, rfl, .ref p, rfl, p, _, 2, .int (b + 1), rfl, rfl, Evl.sq_of upd_same, rfl, ?_⟩
      refine call_int2 fun r H2 s2 => .inl ⟨r, rfl, _, rfl, _, _, rfl, rfl, m0, ?_⟩
      exact k a _ xs _ _ (Int.emod_nonneg _ (by omega)) (Int.emod_lt_of_pos _ m0) (s2 _ _ upd_same) (s2 _ _ (by rw [upd_ne ne.symm]; exact hl)) fun d o n1 n2 z => s2 _ _ (by rw [upd_ne n1]; exact fr0 d o n1 n2 z)
end
end K00
-- K00v
set_option Elab.async false
set_option linter.all false
set_option maxRecDepth 100000
set_option maxHeartbeats 4000000
open PySem L2
namespace K00
open Hw
section
variable {P : Program} {w : World} {K : PySem.W.Frag} {mg : Str → Option Value} {base : Heap} {C fI : Addr} {fdI : FuncData} {ad : Ads}
theorem f_l_pool {a_l_pool : Addr} {fd_l_pool : FuncData} (T : Tx K mg C fI fdI ad) (F : Fun K "_law_pool" "_law_pool" s_l_pool a_l_pool fd_l_pool) : FnOk P w K mg base (L2N.CX P w) 1 a_l_pool fd_l_pool ["_law_script"] (spPool K) := by
  obtain ⟨oc, od, kV, doc, pm, an, cdv, ct, osl, rfl, lk, hcd⟩ := F.ex
  refine fn_of lk hcd sc_l_pool (fun vs H Q E h => by obtain ⟨a, ns, rfl, _⟩ := h; rfl) fun A outer s H vs Q E hr h => ?_
  obtain ⟨a, ns, rfl, hs, k⟩ := h
  refine ⟨_, pss_cons (ps_set (i := 1) sc_l_pool.nd rfl (Or.inl rfl) pe_int)
    (pss_cons (ps_for .leaving rfl (pi_list (pv 0)) (pg_name (i := 2) sc_l_pool.nd rfl (Or.inl rfl))
      (pss_one (ps_set (i := 1) sc_l_pool.nd rfl (Or.inl rfl) (pe_op op_mod (pe_callTy call_int1 (by rfl) T.b_int (by decide +kernel) (pa_cons (pe_op op_add (pe_op op_add (pe_op op_mul (pv 1) pe_int) (pe_op op_mul (pv 2) pe_int)) pe_int) pa_nil)) pe_int))))
    (pss_one (ps_ret (pe_lst (pa_cons (pe_callTy call_list_of (by rfl) T.b_list PyProof.Rows.boot_list (pa_cons (pv 0) pa_nil)) (pa_cons pe_int (pa_cons pe_int (pa_cons (pv 1) (pa_cons (pe_callB call_len_seq (by rfl) T.b_len PySem.boot_len (pa_cons (pv 0) pa_nil)) pa_nil))))))))), ?_⟩
  refine ⟨.ref a, rfl, a, rfl, ⟨_, hs⟩, L2.for_list (fun i σ' H' => H' = H ∧ i ≤ ns.length ∧ ∃ (seed : Int) (c : Option V), σ' = [some (.ref a), some (.int seed), c]) ⟨rfl, Nat.zero_le _, 0, none, rfl⟩ (fun i σ' H' _ z => by rw [z.1]; exact hs) ?_ ?_⟩
  · rintro i x σ' H' hx ⟨rfl, hi, seed, c, rfl⟩
    rw [List.getElem?_map] at hx
    cases e : ns[i]? with
    | none => rw [e] at hx; cases hx
    | some n =>
      rw [e] at hx
      cases hx
      have hi' := (List.getElem?_eq_some_iff.mp e).1
      refine ⟨_, rfl, _, _, rfl, rfl, .inr (by decide), ?_⟩
      refine ⟨_, rfl, _, _, rfl, rfl, .inr (by decide), _, _, rfl, rfl, _, _, rfl, rfl, .inl ⟨_, rfl, _, _, rfl, rfl, (show (0 : Int) < 2147450009 by decide), ?_⟩⟩
      exact ⟨rfl, hi', _, _, rfl⟩
  · rintro σ' H' ⟨rfl, _, seed, c, rfl⟩
    refine ⟨.ref a, rfl, a, _, rfl, .inl hs, fun l hl => ?_⟩
    refine ⟨_, rfl, .ref a, rfl, a, _, rfl, .inl (Evl.ex_l (Evl.Ex.new hl) hs), ?_⟩
    refine ⟨line_le (show 5 ≤ 16777216 by decide), fun p hp => ?_⟩
    have ne : p ≠ l := fun z => by rw [z, upd_same] at hp; cases hp
    rw [upd_ne ne] at hp
    exact k p l seed _ hl hp ne
end
end K00
-- K00w
set_option Elab.async false
set_option linter.all false
set_option maxRecDepth 100000
set_option maxHeartbeats 4000000
open PySem L2
namespace K00
open Hw
/-- a made exception -/
def ExcAt (H : Hp) (a C : Addr) (fs : List (Str × V)) : Prop := ∃ d, H a = some (exo a C (some d)) ∧ H d = some (exd d fs)
def spKV (C : Addr) : Sp := fun vs H Q _ => ∃ (a : Addr) (fs : List (Str × V)), vs = [.ref a] ∧ ExcAt H a C fs ∧ Q (.bl true) H
section
variable {P : Program} {w : World} {K : PySem.W.Frag} {mg : Str → Option Value} {base : Heap} {C fI : Addr} {fdI : FuncData} {ad : Ads}
theorem isV_i {D : Addr} {a : Addr} {fs : List (Str × V)} {c : V} {cv : Value} {b : Bool} {H : Hp} {Q : VK} (h : ExcAt H a D fs) (hc : ∀ u, RelV c u → u = cv) (k : PySem.W.kitOne K (.ref D) cv = some b) (q : Q (.bl b) H) : rIsV K D [.ref a, c] H Q := by
  obtain ⟨d, h1, h2⟩ := h
  exact ⟨a, d, fs, c, cv, b, rfl, h1, h2, hc, k, q⟩
theorem f_l_kinV {a_l_kin : Addr} {fd_l_kin : FuncData} (T : Tx K mg C fI fdI ad) (F : Fun K "_law_kin" "_law_kin" s_l_kin a_l_kin fd_l_kin) : FnOk P w K mg base (L2N.CX P w) 1 a_l_kin fd_l_kin ["_law_e"] (spKV C) := by
  obtain ⟨oc, od, kV, doc, pm, an, cdv, ct, osl, rfl, lk, hcd⟩ := F.ex
  refine fn_of lk hcd sc_l_kin (fun vs H Q E h => by obtain ⟨a, ns, rfl, _⟩ := h; rfl) fun A outer s H vs Q E hr h => ?_
  obtain ⟨a, fs, rfl, hx, k⟩ := h
  refine ⟨_, (pss_cons (ps_if (PW.pt (pw_or (pt_not (pt_val (pe_callB (call_isV T.xc) (by rfl) T.b_isinstance (by decide +kernel) (pa_cons (pv 0) (pa_cons (pe_glob (v := .ref ad.PlanError) (by rfl) T.m_PlanError rfl) pa_nil))))) (pw_or (pt_not (pt_val (pe_callB (call_isV T.xc) (by rfl) T.b_isinstance (by decide +kernel) (pa_cons (pv 0) (pa_cons (pe_glob (v := .ref ad.HangError) (by rfl) T.m_HangError rfl) pa_nil))))) (pw_or1 (pt_not (pt_val (pe_callB (call_isV T.xc) (by rfl) T.b_isinstance (by decide +kernel) (pa_cons (pv 0) (pa_cons (pe_bltn (v := .ty "ValueError") (u := .type "ValueError") (by rfl) T.b_ValueError (by decide +kernel) rfl) pa_nil))))))))) (pss_one (ps_ret pe_bl)) pss_nil)
    (pss_cons (ps_if (PW.pt (pw_or (pt_val (pe_callB (call_isV T.xc) (by rfl) T.b_isinstance (by decide +kernel) (pa_cons (pv 0) (pa_cons (pe_glob (v := .ref ad.PaperError) (by rfl) T.m_PaperError rfl) pa_nil)))) (pw_or (pt_val (pe_callB (call_isV T.xc) (by rfl) T.b_isinstance (by decide +kernel) (pa_cons (pv 0) (pa_cons (pe_glob (v := .ref ad.LiveError) (by rfl) T.m_LiveError rfl) pa_nil)))) (pw_or1 (pt_val (pe_callB (call_isV T.xc) (by rfl) T.b_isinstance (by decide +kernel) (pa_cons (pv 0) (pa_cons (pe_glob (v := .ref ad.TextError) (by rfl) T.m_TextError rfl) pa_nil)))))))) (pss_one (ps_ret pe_bl)) pss_nil)
    (pss_one (ps_ret (pe_not (pe_callB (call_isV T.xc) (by rfl) T.b_isinstance (by decide +kernel) (pa_cons (pv 0) (pa_cons (pe_glob (v := .ref ad.Unfit) (by rfl) T.m_Unfit rfl) pa_nil)))))))), ?_⟩
  obtain ⟨d, h1, h2⟩ := hx
  have rl : ∀ {x : Addr} (u : Value), RelV (.ref x) u → u = .ref x := fun u h => h
  have rt : ∀ {x : String} (u : Value), RelV (.ty x) u → u = .type x := fun u h => h
  refine ⟨.ref a, rfl, a, d, fs, .ref ad.PlanError, .ref ad.PlanError, true, rfl, h1, h2, rl, T.k_PlanError, true, rfl, ?_⟩
  refine iteF ?_
  refine ⟨.ref a, rfl, a, d, fs, .ref ad.HangError, .ref ad.HangError, true, rfl, h1, h2, rl, T.k_HangError, true, rfl, ?_⟩
  refine iteF ?_
  refine ⟨.ref a, rfl, a, d, fs, .ty "ValueError", .type "ValueError", true, rfl, h1, h2, rt, T.k_ValueError, true, rfl, ?_⟩
  refine iteF ?_
  refine ⟨.ref a, rfl, a, d, fs, .ref ad.PaperError, .ref ad.PaperError, false, rfl, h1, h2, rl, T.k_PaperError, false, rfl, ?_⟩
  refine iteF ?_
  refine ⟨.ref a, rfl, a, d, fs, .ref ad.LiveError, .ref ad.LiveError, false, rfl, h1, h2, rl, T.k_LiveError, false, rfl, ?_⟩
  refine iteF ?_
  refine ⟨.ref a, rfl, a, d, fs, .ref ad.TextError, .ref ad.TextError, false, rfl, h1, h2, rl, T.k_TextError, false, rfl, ?_⟩
  refine iteF ?_
  exact ⟨.ref a, rfl, a, d, fs, .ref ad.Unfit, .ref ad.Unfit, false, rfl, h1, h2, rl, T.k_Unfit, false, rfl, k⟩
end
end K00
-- K00x
set_option Elab.async false
set_option linter.all false
set_option maxRecDepth 100000
set_option maxHeartbeats 4000000
open PySem L2
namespace K00
open Hw
structure Bds where
  InvalidPaper : Addr
  InvalidEvent : Addr
  NothingToUndo : Addr
  InvalidSketch : Addr
  InvalidText : Addr
  f_InvalidPaper : Addr
  d_InvalidPaper : FuncData
  f_Unfit : Addr
  d_Unfit : FuncData
  f_InvalidEvent : Addr
  d_InvalidEvent : FuncData
  f_NothingToUndo : Addr
  d_NothingToUndo : FuncData
  f_InvalidSketch : Addr
  d_InvalidSketch : FuncData
  f_InvalidText : Addr
  d_InvalidText : FuncData
abbrev sI_InvalidPaper : Stmt := inClass (topS 7) 0
theorem scI_InvalidPaper : FnScope ["self", "word", "at"] ["self", "word", "at"] (defScope sI_InvalidPaper) := ⟨rfl, rfl, rfl, by decide +kernel, rfl, by decide +kernel, by decide +kernel⟩
abbrev sI_NotUsable : Stmt := inClass (topS 8) 0
theorem scI_NotUsable : FnScope ["self", "word", "at"] ["self", "word", "at"] (defScope sI_NotUsable) := ⟨rfl, rfl, rfl, by decide +kernel, rfl, by decide +kernel, by decide +kernel⟩
abbrev sI_Unfit : Stmt := inClass (topS 9) 0
theorem scI_Unfit : FnScope ["self", "barring"] ["self", "barring"] (defScope sI_Unfit) := ⟨rfl, rfl, rfl, by decide +kernel, rfl, by decide +kernel, by decide +kernel⟩
abbrev sI_InvalidEvent : Stmt := inClass (topS 10) 0
theorem scI_InvalidEvent : FnScope ["self", "event", "reason"] ["self", "event", "reason"] (defScope sI_InvalidEvent) := ⟨rfl, rfl, rfl, by decide +kernel, rfl, by decide +kernel, by decide +kernel⟩
abbrev sI_NothingToUndo : Stmt := inClass (topS 11) 0
theorem scI_NothingToUndo : FnScope ["self", "steps"] ["self", "steps"] (defScope sI_NothingToUndo) := ⟨rfl, rfl, rfl, by decide +kernel, rfl, by decide +kernel, by decide +kernel⟩
abbrev sI_InvalidSketch : Stmt := inClass (topS 12) 0
theorem scI_InvalidSketch : FnScope ["self", "word", "at"] ["self", "word", "at"] (defScope sI_InvalidSketch) := ⟨rfl, rfl, rfl, by decide +kernel, rfl, by decide +kernel, by decide +kernel⟩
abbrev sI_InvalidText : Stmt := inClass (topS 13) 0
theorem scI_InvalidText : FnScope ["self", "line", "field"] ["self", "line", "field"] (defScope sI_InvalidText) := ⟨rfl, rfl, rfl, by decide +kernel, rfl, by decide +kernel, by decide +kernel⟩
def fs1 (f : Str) : List V → List (Str × V) := fun r => match r with
    | [v] => [(f, v)]
    | _ => []
def fs2 (f1 f2 : Str) : List V → List (Str × V) := fun r => match r with
    | [v1, v2] => [(f2, v2), (f1, v1)]
    | _ => []
section
variable {P : Program} {w : World} {K : PySem.W.Frag} {mg : Str → Option Value} {base : Heap} {C fI : Addr} {fdI : FuncData} {ad : Ads}
theorem ini1_ok {x qual : Str} {st : Stmt} {f C : Addr} {fd : FuncData} {N ps : List Str} {f1 : Str} {CX : CXT} (T : OexC K C) (n1 : PySem.W.findIn K (.ref C) f1 = some none) (F : Fun K x qual st f fd) (S : FnScope N ps (defScope st)) (hn : ps.length = 2) (hN : N.length = 2)
    (hd : ∀ (cdv : Value) (A : Around) (outer : List Env) (s : Shared) (H : Hp) (E : XK), PSs (cxOf CX P w K mg base N qual (defScope st) f cdv A outer s H E) (defBody st) (tOst K f1 (tVar 0) (tVar 1))) :
    FnOk P w K mg base CX 1 f fd ps (spIniN C 1 (fs1 f1)) := by
  obtain ⟨oc, od, kV, doc, pm, an, cdv, ct, osl, rfl, lk, hcd⟩ := F.ex
  refine fn_of lk hcd S (fun vs H Q E h => by obtain ⟨a, rest, rfl, hl, _⟩ := h; rw [hn, List.length_cons, hl]) fun A outer s H vs Q E hr h => ?_
  obtain ⟨a, rest, rfl, hl, hH, q⟩ := h
  match rest, hl, q with
  | [v1], _, q =>
    refine ⟨_, hd cdv A outer s H E, ?_⟩
    refine ⟨v1, rfl, .ref a, rfl, a, C, rfl, T, n1, .inl ⟨hH, fun dx hdx ne => ?_⟩⟩
    exact q dx _ hdx ne (fun b n1 n2 => by rw [upd_ne n2, upd_ne n1]) upd_same (by rw [upd_ne ne, upd_same]; rfl)
/-- a class of exceptions, its __init__ -/
structure CB (P : Program) (w : World) (K : PySem.W.Frag) (mg : Str → Option Value) (base : Heap) (x qual : Str) (st : Stmt) (C f : Addr) (fd : FuncData) (ps : List Str) (n : Nat) (fs : List V → List (Str × V)) : Prop where
  oex : OexC K C
  xf : XfC K C
  xc : XcC K C
  hi : PySem.W.findIn K (.ref C) "__init__" = some (some (.ref f))
  ti : PySem.W.typeIn K (.ref f) = some (.type "function")
  ini : FnOk P w K mg base (L2N.CX P w) 1 f fd ps (spIniN C n fs)
  m : mg x = some (.ref C)
  fn : Fun K "__init__" qual st f fd
/-- the classes that the law makes exceptions of, and whose kin they are -/
structure Ty (P : Program) (w : World) (K : PySem.W.Frag) (mg : Str → Option Value) (base : Heap) (C fI : Addr) (fdI : FuncData) (ad : Ads) (bd : Bds) : Prop where
  B_InvalidPaper : CB P w K mg base "InvalidPaper" "InvalidPaper.__init__" sI_InvalidPaper bd.InvalidPaper bd.f_InvalidPaper bd.d_InvalidPaper ["self", "word", "at"] 2 (fs2 "word" "at")
  B_NotUsable : CB P w K mg base "NotUsable" "NotUsable.__init__" sI_NotUsable C fI fdI ["self", "word", "at"] 2 (fs2 "word" "at")
  B_Unfit : CB P w K mg base "Unfit" "Unfit.__init__" sI_Unfit ad.Unfit bd.f_Unfit bd.d_Unfit ["self", "barring"] 1 (fs1 "barring")
  B_InvalidEvent : CB P w K mg base "InvalidEvent" "InvalidEvent.__init__" sI_InvalidEvent bd.InvalidEvent bd.f_InvalidEvent bd.d_InvalidEvent ["self", "event", "reason"] 2 (fs2 "event" "reason")
  B_NothingToUndo : CB P w K mg base "NothingToUndo" "NothingToUndo.__init__" sI_NothingToUndo bd.NothingToUndo bd.f_NothingToUndo bd.d_NothingToUndo ["self", "steps"] 1 (fs1 "steps")
  B_InvalidSketch : CB P w K mg base "InvalidSketch" "InvalidSketch.__init__" sI_InvalidSketch bd.InvalidSketch bd.f_InvalidSketch bd.d_InvalidSketch ["self", "word", "at"] 2 (fs2 "word" "at")
  B_InvalidText : CB P w K mg base "InvalidText" "InvalidText.__init__" sI_InvalidText bd.InvalidText bd.f_InvalidText bd.d_InvalidText ["self", "line", "field"] 2 (fs2 "line" "field")
  n_InvalidPaper_word : PySem.W.findIn K (.ref bd.InvalidPaper) "word" = some none
  n_InvalidPaper_at : PySem.W.findIn K (.ref bd.InvalidPaper) "at" = some none
  n_NotUsable_word : PySem.W.findIn K (.ref C) "word" = some none
  n_NotUsable_at : PySem.W.findIn K (.ref C) "at" = some none
  n_Unfit_barring : PySem.W.findIn K (.ref ad.Unfit) "barring" = some none
  n_InvalidEvent_event : PySem.W.findIn K (.ref bd.InvalidEvent) "event" = some none
  n_InvalidEvent_reason : PySem.W.findIn K (.ref bd.InvalidEvent) "reason" = some none
  n_NothingToUndo_steps : PySem.W.findIn K (.ref bd.NothingToUndo) "steps" = some none
  n_InvalidSketch_word : PySem.W.findIn K (.ref bd.InvalidSketch) "word" = some none
  n_InvalidSketch_at : PySem.W.findIn K (.ref bd.InvalidSketch) "at" = some none
  n_InvalidText_line : PySem.W.findIn K (.ref bd.InvalidText) "line" = some none
  n_InvalidText_field : PySem.W.findIn K (.ref bd.InvalidText) "field" = some none
  k_InvalidPaper_PaperError : PySem.W.kitOne K (.ref bd.InvalidPaper) (.ref ad.PaperError) = some true
  k_InvalidPaper_PlanError : PySem.W.kitOne K (.ref bd.InvalidPaper) (.ref ad.PlanError) = some false
  k_InvalidPaper_HangError : PySem.W.kitOne K (.ref bd.InvalidPaper) (.ref ad.HangError) = some true
  k_InvalidPaper_ValueError : PySem.W.kitOne K (.ref bd.InvalidPaper) (.type "ValueError") = some true
  k_InvalidPaper_TextError : PySem.W.kitOne K (.ref bd.InvalidPaper) (.ref ad.TextError) = some false
  k_InvalidSketch_PaperError : PySem.W.kitOne K (.ref bd.InvalidSketch) (.ref ad.PaperError) = some false
  k_InvalidSketch_PlanError : PySem.W.kitOne K (.ref bd.InvalidSketch) (.ref ad.PlanError) = some false
  k_InvalidSketch_TextError : PySem.W.kitOne K (.ref bd.InvalidSketch) (.ref ad.TextError) = some true
  k_InvalidSketch_HangError : PySem.W.kitOne K (.ref bd.InvalidSketch) (.ref ad.HangError) = some true
  k_InvalidSketch_InvalidText : PySem.W.kitOne K (.ref bd.InvalidSketch) (.ref bd.InvalidText) = some false
  k_Unfit_PlanError : PySem.W.kitOne K (.ref ad.Unfit) (.ref ad.PlanError) = some true
  k_Unfit_NotUsable : PySem.W.kitOne K (.ref ad.Unfit) (.ref C) = some false
  k_Unfit_HangError : PySem.W.kitOne K (.ref ad.Unfit) (.ref ad.HangError) = some true
  k_Unfit_ValueError : PySem.W.kitOne K (.ref ad.Unfit) (.type "ValueError") = some true
  k_Unfit_PaperError : PySem.W.kitOne K (.ref ad.Unfit) (.ref ad.PaperError) = some false
  k_InvalidEvent_LiveError : PySem.W.kitOne K (.ref bd.InvalidEvent) (.ref ad.LiveError) = some true
  k_InvalidEvent_PlanError : PySem.W.kitOne K (.ref bd.InvalidEvent) (.ref ad.PlanError) = some false
  k_InvalidEvent_NothingToUndo : PySem.W.kitOne K (.ref bd.InvalidEvent) (.ref bd.NothingToUndo) = some false
  k_InvalidEvent_HangError : PySem.W.kitOne K (.ref bd.InvalidEvent) (.ref ad.HangError) = some true
  k_InvalidEvent_ValueError : PySem.W.kitOne K (.ref bd.InvalidEvent) (.type "ValueError") = some true
  k_InvalidEvent_PaperError : PySem.W.kitOne K (.ref bd.InvalidEvent) (.ref ad.PaperError) = some false
  k_NothingToUndo_LiveError : PySem.W.kitOne K (.ref bd.NothingToUndo) (.ref ad.LiveError) = some true
  k_NothingToUndo_InvalidEvent : PySem.W.kitOne K (.ref bd.NothingToUndo) (.ref bd.InvalidEvent) = some false
  k_NothingToUndo_HangError : PySem.W.kitOne K (.ref bd.NothingToUndo) (.ref ad.HangError) = some true
  k_NothingToUndo_ValueError : PySem.W.kitOne K (.ref bd.NothingToUndo) (.type "ValueError") = some true
  k_NothingToUndo_PaperError : PySem.W.kitOne K (.ref bd.NothingToUndo) (.ref ad.PaperError) = some false
  k_InvalidText_TextError : PySem.W.kitOne K (.ref bd.InvalidText) (.ref ad.TextError) = some true
  k_InvalidText_InvalidSketch : PySem.W.kitOne K (.ref bd.InvalidText) (.ref bd.InvalidSketch) = some false
  k_InvalidText_LiveError : PySem.W.kitOne K (.ref bd.InvalidText) (.ref ad.LiveError) = some false
  k_InvalidText_HangError : PySem.W.kitOne K (.ref bd.InvalidText) (.ref ad.HangError) = some true
  k_InvalidText_ValueError : PySem.W.kitOne K (.ref bd.InvalidText) (.type "ValueError") = some true
  k_InvalidText_PaperError : PySem.W.kitOne K (.ref bd.InvalidText) (.ref ad.PaperError) = some false
/-- two ints; true -/
def spTwo : Sp := fun vs H Q _ => ∃ a b : Int, vs = [.int a, .int b] ∧ ∀ H', (∀ d o, H d = some o → H' d = some o) → Q (.bl true) H'
theorem two_imp {c : Ct} (hc : ∀ ss Q X, c ss Q X → ∃ a b : Int, ss = [.val (.int a), .val (.int b)] ∧ Q (.bool true)) (vs : List V) (H : Hp) (Q : VK) (E : XK) (h : spC K 2 c vs H Q E) : spTwo vs H Q E := by
  obtain ⟨hl, pl, F, ss, Qd, Xd, fo, ha, h, ok, _⟩ := h
  obtain ⟨a, b, rfl, q⟩ := hc _ _ _ h
  match vs, ha with
  | [v, v'], ha =>
    refine ⟨a, b, by rw [dp_int ha.1, dp_int ha.2.1], fun H' mono => ok _ H' F _ ?_ (.bl _) q⟩
    exact {
      fh := fun d o e => mono d o (fo.fh d o e)
      f0 := Evl.Ex.refl _
      fresh := fun d o e => .inl e
      keep := fun d o e _ => mono d o e
      dom := fun d e => by
        cases z : H d with
        | none => exact z
        | some o => rw [mono d o z] at e; cases e
      pool := fun p l e => by
        obtain ⟨⟨f1, f2, ne, x1, x2, x3, x4, xs, g1, g2⟩, m⟩ := fo.pool p l e
        exact ⟨⟨f1, f2, ne, x1, x2, x3, x4, xs, mono _ _ g1, mono _ _ g2⟩, m⟩ }
theorem ExcAt.up {H : Hp} {a D l : Addr} {fs : List (Str × V)} {xs : List V} {o : HO} (h : ExcAt H a D fs) (hl : H l = some (.lst xs)) : ExcAt (upd H l o) a D fs := by
  obtain ⟨d, h1, h2⟩ := h
  exact ⟨d, by rw [upd_ne (fun z => by rw [z, hl] at h1; cases h1)]; exact h1, by rw [upd_ne (fun z => by rw [z, hl] at h2; cases h2)]; exact h2⟩
theorem ExcAt.mono {H H' : Hp} {a D : Addr} {fs : List (Str × V)} (m : ∀ b o, H b = some o → H' b = some o) (h : ExcAt H a D fs) : ExcAt H' a D fs := by
  obtain ⟨d, h1, h2⟩ := h
  exact ⟨d, m _ _ h1, m _ _ h2⟩
def l2 (a b : Int) : PyData := .list [.int a, .int b]
theorem shp_l2 (a b : Int) : SeqAt.shaped (l2 a b) = true := by
  unfold l2
  simp [SeqAt.shaped, PyData.canLay0, PyData.depth, PyData.canLayAll0, PyData.depthAll]
theorem eqv_l2 (a b : Int) : (!PyData.eqv (l2 a b) (l2 a b)) = false := by
  unfold l2
  simp [PyData.eqv, PyData.eqvAll]
theorem dp_l2 {H : Hp} {l : Addr} {a b : Int} (h : H l = some (.lst [.int a, .int b])) : Dp K H (.ref l) (l2 a b) := hs_dp (K := K) (H := H) (l2 a b) (.ref l) (.lst h (.cons (.int a) (.cons (.int b) .nil)))
theorem f_l_papers {bd : Bds} {a_l_papers a_l_kin : Addr} {fd_l_papers fd_l_kin : FuncData} (T : Tx K mg C fI fdI ad) (U : Ty P w K mg base C fI fdI ad bd) (F : Fun K "_law_papers" "_law_papers" s_l_papers a_l_papers fd_l_papers) (HV : FnOk P w K mg base (L2N.CX P w) 1 a_l_kin fd_l_kin ["_law_e"] (spKV C)) (mV : mg "_law_kin" = some (.ref a_l_kin)) (kV : PySem.W.keepIn K (.ref a_l_kin) = true) (bV : Binds K fd_l_kin ["_law_e"] []) : FnOk P w K mg base (L2N.CX P w) 3 a_l_papers fd_l_papers ["_law_first", "_law_second"] (spC K 2 c_l_papers) := by
  refine FnOk.imp (sp := spTwo) ?_ (two_imp fun ss Q X h => h)
  obtain ⟨oc, od, kV', doc, pm, an, cdv, ct, osl, rfl, lk, hcd⟩ := F.ex
  have sc := sc_l_papers
  refine fn_of lk hcd sc_l_papers (fun vs H Q E h => by obtain ⟨a, b, rfl, _⟩ := h; rfl) fun A outer s H vs Q E hr h => ?_
  obtain ⟨x, y, rfl, k⟩ := h
  have tk := L2N.takes_of (X := cxOf (L2N.CX P w) P w K mg base N_l_papers "_law_papers" (defScope s_l_papers) a_l_papers cdv A outer s H E) rfl rfl rfl rfl
  have kw_InvalidPaper_P := kwc_mk (ps := ["self", "word", "at"]) U.B_InvalidPaper.fn 2 [] [0, 1] (fun _ _ _ _ _ _ _ us ws l1 l2 => match us, ws, l1, l2 with | [_, _], [], _, _ => rfl)
  have kw_InvalidPaper_K := kwc_mk (ps := ["self", "word", "at"]) U.B_InvalidPaper.fn 0 ["at", "word"] [1, 0] (fun _ _ _ _ _ _ _ us ws l1 l2 => match us, ws, l1, l2 with | [], [_, _], _, _ => rfl)
  have kw_NotUsable_P := kwc_mk (ps := ["self", "word", "at"]) U.B_NotUsable.fn 2 [] [0, 1] (fun _ _ _ _ _ _ _ us ws l1 l2 => match us, ws, l1, l2 with | [_, _], [], _, _ => rfl)
  have kw_NotUsable_K := kwc_mk (ps := ["self", "word", "at"]) U.B_NotUsable.fn 0 ["at", "word"] [1, 0] (fun _ _ _ _ _ _ _ us ws l1 l2 => match us, ws, l1, l2 with | [], [_, _], _, _ => rfl)
  have kw_InvalidSketch_M := kwc_mk (ps := ["self", "word", "at"]) U.B_InvalidSketch.fn 1 ["at"] [0, 1] (fun _ _ _ _ _ _ _ us ws l1 l2 => match us, ws, l1, l2 with | [_], [_], _, _ => rfl)
  have rl : ∀ {x : Addr} (u : Value), RelV (.ref x) u → u = .ref x := fun u h => h
  have rt : ∀ {x : String} (u : Value), RelV (.ty x) u → u = .type x := fun u h => h
  refine ⟨_, (pss_cons (ps_set (i := 2) sc.nd rfl (Or.inl rfl) (pe_lst (pa_cons (pv 0) pa_nil)))
    (pss_cons (ps_set (i := 3) sc.nd rfl (Or.inl rfl) (pe_lst (pa_cons (pv 1) pa_nil)))
    (pss_cons (ps_set (i := 4) sc.nd rfl (Or.inl rfl) (pe_lst (pa_cons (pe_exvP U.B_InvalidPaper.oex U.B_InvalidPaper.hi U.B_InvalidPaper.ti U.B_InvalidPaper.ini (hr.mono (by decide)) kw_InvalidPaper_P passN (by rfl) U.B_InvalidPaper.m (pa_cons (pv 2) (pa_cons (pv 3) pa_nil))) (pa_cons (pe_exvK U.B_InvalidPaper.oex U.B_InvalidPaper.hi U.B_InvalidPaper.ti U.B_InvalidPaper.ini (hr.mono (by decide)) kw_InvalidPaper_K passN (by rfl) U.B_InvalidPaper.m (pk_cons (pv 3) (pk_cons (pv 2) pk_nil))) pa_nil))))
    (pss_cons (ps_set (i := 5) sc.nd rfl (Or.inl rfl) (pe_lst (pa_cons (pe_exvP U.B_NotUsable.oex U.B_NotUsable.hi U.B_NotUsable.ti U.B_NotUsable.ini (hr.mono (by decide)) kw_NotUsable_P passN (by rfl) U.B_NotUsable.m (pa_cons (pv 2) (pa_cons (pv 3) pa_nil))) (pa_cons (pe_exvK U.B_NotUsable.oex U.B_NotUsable.hi U.B_NotUsable.ti U.B_NotUsable.ini (hr.mono (by decide)) kw_NotUsable_K passN (by rfl) U.B_NotUsable.m (pk_cons (pv 3) (pk_cons (pv 2) pk_nil))) pa_nil))))
    (pss_cons (ps_set (i := 6) sc.nd rfl (Or.inl rfl) (pe_exvM U.B_InvalidSketch.oex U.B_InvalidSketch.hi U.B_InvalidSketch.ti U.B_InvalidSketch.ini (hr.mono (by decide)) kw_InvalidSketch_M passN (by rfl) U.B_InvalidSketch.m (pa_cons (pv 2) pa_nil) (pk_cons (pv 3) pk_nil)))
    (pss_cons (ps_expr (pe_bm PySem.F.plainAttrs_list PySem.F.slot_list_append PySem.F.type_list_append mt_append (pv 2) (pa_cons pe_int pa_nil)))
    (pss_cons (ps_expr (pe_bm PySem.F.plainAttrs_list PySem.F.slot_list_append PySem.F.type_list_append mt_append (pv 3) (pa_cons (pv 1) pa_nil)))
    (pss_cons (ps_for .leaving rfl (pi_list (pv 4)) (pg_name (i := 7) sc.nd rfl (Or.inl rfl)) (pss_cons (ps_if (PW.pt (pw_or (pt_cmpR (op_neD hr.units) (pe_xat U.B_InvalidPaper.xf U.n_InvalidPaper_word (pv 7)) (pv 2) (nomark _)) (pw_or (pt_cmpR (op_neD hr.units) (pe_xat U.B_InvalidPaper.xf U.n_InvalidPaper_at (pv 7)) (pv 3) (nomark _)) (pw_or (pt_not (pt_val (pe_callB (call_isV U.B_InvalidPaper.xc) (by rfl) T.b_isinstance (by decide +kernel) (pa_cons (pv 7) (pa_cons (pe_glob (v := .ref ad.PaperError) (by rfl) T.m_PaperError rfl) pa_nil))))) (pw_or1 (pt_val (pe_callB (call_isV U.B_InvalidPaper.xc) (by rfl) T.b_isinstance (by decide +kernel) (pa_cons (pv 7) (pa_cons (pe_glob (v := .ref ad.PlanError) (by rfl) T.m_PlanError rfl) pa_nil))))))))) (pss_one (ps_ret pe_bl)) pss_nil)
    (pss_one (ps_if (PW.pt (pw_or (pt_not (pt_val (pe_callB (call_isV U.B_InvalidPaper.xc) (by rfl) T.b_isinstance (by decide +kernel) (pa_cons (pv 7) (pa_cons (pe_glob (v := .ref ad.HangError) (by rfl) T.m_HangError rfl) pa_nil))))) (pw_or (pt_not (pt_val (pe_callB (call_isV U.B_InvalidPaper.xc) (by rfl) T.b_isinstance (by decide +kernel) (pa_cons (pv 7) (pa_cons (pe_bltn (v := .ty "ValueError") (u := .type "ValueError") (by rfl) T.b_ValueError (by decide +kernel) rfl) pa_nil))))) (pw_or1 (pt_val (pe_callB (call_isV U.B_InvalidPaper.xc) (by rfl) T.b_isinstance (by decide +kernel) (pa_cons (pv 7) (pa_cons (pe_glob (v := .ref ad.TextError) (by rfl) T.m_TextError rfl) pa_nil)))))))) (pss_one (ps_ret pe_bl)) pss_nil))))
    (pss_cons (ps_for .leaving rfl (pi_list (pv 5)) (pg_name (i := 7) sc.nd rfl (Or.inl rfl)) (pss_one (ps_if (PW.pt (pw_or (pt_cmpR (op_neD hr.units) (pe_xat U.B_NotUsable.xf U.n_NotUsable_word (pv 7)) (pv 2) (nomark _)) (pw_or (pt_cmpR (op_neD hr.units) (pe_xat U.B_NotUsable.xf U.n_NotUsable_at (pv 7)) (pv 3) (nomark _)) (pw_or1 (pt_not (pt_val (pe_callS HV (hr.mono (by decide)) (by rfl) mV kV bV (fun σ => L2N.passAt tk σ) (pa_cons (pv 7) pa_nil)))))))) (pss_one (ps_ret pe_bl)) pss_nil)))
    (pss_cons (ps_if (PW.pt (pw_or (pt_cmpR (op_neD hr.units) (pe_xat U.B_InvalidSketch.xf U.n_InvalidSketch_word (pv 6)) (pv 2) (nomark _)) (pw_or (pt_cmpR (op_neD hr.units) (pe_xat U.B_InvalidSketch.xf U.n_InvalidSketch_at (pv 6)) (pv 3) (nomark _)) (pw_or (pt_val (pe_callB (call_isV U.B_InvalidSketch.xc) (by rfl) T.b_isinstance (by decide +kernel) (pa_cons (pv 6) (pa_cons (pe_glob (v := .ref ad.PaperError) (by rfl) T.m_PaperError rfl) pa_nil)))) (pw_or1 (pt_val (pe_callB (call_isV U.B_InvalidSketch.xc) (by rfl) T.b_isinstance (by decide +kernel) (pa_cons (pv 6) (pa_cons (pe_glob (v := .ref ad.PlanError) (by rfl) T.m_PlanError rfl) pa_nil))))))))) (pss_one (ps_ret pe_bl)) pss_nil)
    (pss_one (ps_ret (pe_and (pe_callB (call_isV U.B_InvalidSketch.xc) (by rfl) T.b_isinstance (by decide +kernel) (pa_cons (pv 6) (pa_cons (pe_glob (v := .ref ad.TextError) (by rfl) T.m_TextError rfl) pa_nil))) (pe_and (pe_callB (call_isV U.B_InvalidSketch.xc) (by rfl) T.b_isinstance (by decide +kernel) (pa_cons (pv 6) (pa_cons (pe_glob (v := .ref ad.HangError) (by rfl) T.m_HangError rfl) pa_nil))) (pe_one (pe_not (pe_callB (call_isV U.B_InvalidSketch.xc) (by rfl) T.b_isinstance (by decide +kernel) (pa_cons (pv 6) (pa_cons (pe_glob (v := .ref bd.InvalidText) (by rfl) U.B_InvalidText.m rfl) pa_nil))))))))))))))))))), ?_⟩
  refine ⟨.int x, rfl, line_le (show 1 ≤ 16777216 by decide), fun l hl => ?_⟩
  refine ⟨.int y, rfl, line_le (show 1 ≤ 16777216 by decide), fun r hr' => ?_⟩
  have ne : r ≠ l := fun z => by rw [z, upd_same] at hr'; cases hr'
  refine ⟨.ref l, rfl, .ref r, rfl, rfl, rfl, (show 2 ≤ 1000 by decide), fun a1 d1 H1 ha1 hd1 ne1 m1 e1 f1 => ?_⟩
  refine ⟨.ref r, rfl, .ref l, rfl, rfl, rfl, (show 0 ≤ 1000 by decide), fun a2 d2 H2 ha2 hd2 ne2 m2 e2 f2 => ?_⟩
  refine ⟨line_le (show 2 ≤ 16777216 by decide), fun p hp => ?_⟩
  refine ⟨.ref l, rfl, .ref r, rfl, rfl, rfl, (show 2 ≤ 1000 by decide), fun a3 d3 H3 ha3 hd3 ne3 m3 e3 f3 => ?_⟩
  refine ⟨.ref r, rfl, .ref l, rfl, rfl, rfl, (show 0 ≤ 1000 by decide), fun a4 d4 H4 ha4 hd4 ne4 m4 e4 f4 => ?_⟩
  refine ⟨line_le (show 2 ≤ 16777216 by decide), fun q hq => ?_⟩
  refine ⟨.ref l, rfl, .ref r, rfl, rfl, rfl, rfl, (show 1 ≤ 1000 by decide), fun a5 d5 H5 ha5 hd5 ne5 m5 e5 f5 => ?_⟩
  have mu : ∀ {H : Hp} {p : Addr} {u : HO}, H p = none → ∀ b o, H b = some o → upd H p u b = some o := fun h b o e => by rw [upd_ne (ne_of_none e h)]; exact e
  have hL0 : (upd (upd H l (.lst [.int x])) r (.lst [.int y])) l = some (.lst [.int x]) := by rw [upd_ne ne.symm, upd_same]
  have m25 : ∀ b o, H2 b = some o → H5 b = some o := fun b o e => m5 _ _ (mu hq _ _ (m4 _ _ (m3 _ _ (mu hp _ _ e))))
  have hL : H5 l = some (.lst [.int x]) := m25 _ _ (m2 _ _ (m1 _ _ hL0))
  have hR : H5 r = some (.lst [.int y]) := m25 _ _ (m2 _ _ (m1 _ _ upd_same))
  have hP : H5 p = some (.lst [.ref a1, .ref a2]) := m5 _ _ (mu hq _ _ (m4 _ _ (m3 _ _ upd_same)))
  have hQ : H5 q = some (.lst [.ref a3, .ref a4]) := m5 _ _ upd_same
  have x1 : ExcAt H5 a1 bd.InvalidPaper [("at", .ref r), ("word", .ref l)] := ⟨d1, m25 _ _ (m2 _ _ e1), m25 _ _ (m2 _ _ f1)⟩
  have x2 : ExcAt H5 a2 bd.InvalidPaper [("at", .ref r), ("word", .ref l)] := ⟨d2, m25 _ _ e2, m25 _ _ f2⟩
  have x3 : ExcAt H5 a3 C [("at", .ref r), ("word", .ref l)] := ⟨d3, m5 _ _ (mu hq _ _ (m4 _ _ e3)), m5 _ _ (mu hq _ _ (m4 _ _ f3))⟩
  have x4 : ExcAt H5 a4 C [("at", .ref r), ("word", .ref l)] := ⟨d4, m5 _ _ (mu hq _ _ e4), m5 _ _ (mu hq _ _ f4)⟩
  have x5 : ExcAt H5 a5 bd.InvalidSketch [("at", .ref r), ("word", .ref l)] := ⟨d5, e5, f5⟩
  have hF : ∀ d o, H d = some o → H5 d = some o ∧ d ≠ l ∧ d ≠ r := fun d o e => by
    have nl : d ≠ l := ne_of_none e hl
    have nr : d ≠ r := ne_of_none (by rw [upd_ne nl]; exact e) hr'
    exact ⟨m25 _ _ (m2 _ _ (m1 _ _ (by rw [upd_ne nr, upd_ne nl]; exact e))), nl, nr⟩
  refine ⟨.ref l, rfl, .inl ⟨rfl, _, Evl.sq_of hL⟩, l, _, .int 4, rfl, rfl, hL, Nat.lt_of_lt_of_le (show 1 < 16777216 by decide) (line_le (Nat.le_refl _)), ?_⟩
  have hR1 : (upd H5 l (.lst ([V.int x] ++ [V.int 4]))) r = some (.lst [.int y]) := by rw [upd_ne ne]; exact hR
  refine ⟨.ref r, rfl, .inl ⟨rfl, _, Evl.sq_of hR1⟩, .int y, rfl, r, _, .int y, rfl, rfl, hR1, Nat.lt_of_lt_of_le (show 1 < 16777216 by decide) (line_le (Nat.le_refl _)), ?_⟩
  have up : ∀ {a D : Addr} {fs : List (Str × V)}, ExcAt H5 a D fs → ExcAt (upd (upd H5 l (.lst ([V.int x] ++ [V.int 4]))) r (.lst ([V.int y] ++ [V.int y]))) a D fs := fun h => (h.up hL).up hR1
  have hP6 : (upd (upd H5 l (.lst ([V.int x] ++ [V.int 4]))) r (.lst ([V.int y] ++ [V.int y]))) p = some (.lst [.ref a1, .ref a2]) := by
    have n1 : p ≠ l := fun z => by rw [z, hL] at hP; cases hP
    have n2 : p ≠ r := fun z => by rw [z, hR] at hP; cases hP
    rw [upd_ne n2, upd_ne n1]; exact hP
  have hQ6 : (upd (upd H5 l (.lst ([V.int x] ++ [V.int 4]))) r (.lst ([V.int y] ++ [V.int y]))) q = some (.lst [.ref a3, .ref a4]) := by
    have n1 : q ≠ l := fun z => by rw [z, hL] at hQ; cases hQ
    have n2 : q ≠ r := fun z => by rw [z, hR] at hQ; cases hQ
    rw [upd_ne n2, upd_ne n1]; exact hQ
  have hL6 : (upd (upd H5 l (.lst ([V.int x] ++ [V.int 4]))) r (.lst ([V.int y] ++ [V.int y]))) l = some (.lst [.int x, .int 4]) := by rw [upd_ne ne.symm, upd_same]; rfl
  have hR6 : (upd (upd H5 l (.lst ([V.int x] ++ [V.int 4]))) r (.lst ([V.int y] ++ [V.int y]))) r = some (.lst [.int y, .int y]) := upd_same
  have hF6 : ∀ d o, H d = some o → (upd (upd H5 l (.lst ([V.int x] ++ [V.int 4]))) r (.lst ([V.int y] ++ [V.int y]))) d = some o := fun d o e => by
    obtain ⟨h1, nl, nr⟩ := hF d o e
    rw [upd_ne nr, upd_ne nl]; exact h1
  replace x1 := up x1
  replace x2 := up x2
  replace x3 := up x3
  replace x4 := up x4
  replace x5 := up x5
  generalize upd (upd H5 l (.lst ([V.int x] ++ [V.int 4]))) r (.lst ([V.int y] ++ [V.int y])) = H6 at hP6 hQ6 hL6 hR6 hF6 x1 x2 x3 x4 x5 ⊢
  have dL := dp_l2 (K := K) hL6
  have dR := dp_l2 (K := K) hR6
  refine ⟨.ref p, rfl, p, rfl, ⟨_, Evl.sq_of hP6⟩, L2.for_list (fun i σ' H' => H' = H6 ∧ i ≤ 2 ∧ ∃ c, σ' = [some (.int x), some (.int y), some (.ref l), some (.ref r), some (.ref p), some (.ref q), some (.ref a5), c]) ⟨rfl, Nat.zero_le _, none, rfl⟩ (fun i σ' H' _ z => by rw [z.1]; exact Evl.sq_of hP6) ?_ ?_⟩
  · rintro i v σ' H' hx ⟨rfl, hi, c, rfl⟩
    have hv : ∃ a, v = .ref a ∧ i + 1 ≤ 2 ∧ ExcAt H' a bd.InvalidPaper [("at", .ref r), ("word", .ref l)] := by
      match i, hx with
      | 0, hx => cases hx; exact ⟨a1, rfl, by decide, x1⟩
      | 1, hx => cases hx; exact ⟨a2, rfl, by decide, x2⟩
      | n + 2, hx => cases hx
    obtain ⟨a, rfl, hi1, d, h1, h2⟩ := hv
    refine ⟨.ref a, rfl, a, d, _, _, rfl, h1, h2, rfl, .ref l, rfl, _, _, dL, dL, shp_l2 _ _, shp_l2 _ _, false, congrArg V.bl (eqv_l2 _ _), ?_⟩
    refine iteF ?_
    refine ⟨.ref a, rfl, a, d, _, _, rfl, h1, h2, rfl, .ref r, rfl, _, _, dR, dR, shp_l2 _ _, shp_l2 _ _, false, congrArg V.bl (eqv_l2 _ _), ?_⟩
    refine iteF ?_
    refine ⟨.ref a, rfl, a, d, _, .ref ad.PaperError, .ref ad.PaperError, true, rfl, h1, h2, rl, U.k_InvalidPaper_PaperError, true, rfl, ?_⟩
    refine iteF ?_
    refine ⟨.ref a, rfl, a, d, _, .ref ad.PlanError, .ref ad.PlanError, false, rfl, h1, h2, rl, U.k_InvalidPaper_PlanError, false, rfl, ?_⟩
    refine iteF ?_
    refine ⟨.ref a, rfl, a, d, _, .ref ad.HangError, .ref ad.HangError, true, rfl, h1, h2, rl, U.k_InvalidPaper_HangError, true, rfl, ?_⟩
    refine iteF ?_
    refine ⟨.ref a, rfl, a, d, _, .ty "ValueError", .type "ValueError", true, rfl, h1, h2, rt, U.k_InvalidPaper_ValueError, true, rfl, ?_⟩
    refine iteF ?_
    refine ⟨.ref a, rfl, a, d, _, .ref ad.TextError, .ref ad.TextError, false, rfl, h1, h2, rl, U.k_InvalidPaper_TextError, false, rfl, ?_⟩
    refine iteF ?_
    exact ⟨rfl, hi1, _, rfl⟩
  · rintro σ' H' ⟨rfl, _, c, rfl⟩
    refine ⟨.ref q, rfl, q, rfl, ⟨_, Evl.sq_of hQ6⟩, L2.for_list (fun i σ' H'' => H'' = H' ∧ i ≤ 2 ∧ ∃ c, σ' = [some (.int x), some (.int y), some (.ref l), some (.ref r), some (.ref p), some (.ref q), some (.ref a5), c]) ⟨rfl, Nat.zero_le _, c, rfl⟩ (fun i σ' H' _ z => by rw [z.1]; exact Evl.sq_of hQ6) ?_ ?_⟩
    · rintro i v σ' H' hx ⟨rfl, hi, c, rfl⟩
      have hv : ∃ a, v = .ref a ∧ i + 1 ≤ 2 ∧ ExcAt H' a C [("at", .ref r), ("word", .ref l)] := by
        match i, hx with
        | 0, hx => cases hx; exact ⟨a3, rfl, by decide, x3⟩
        | 1, hx => cases hx; exact ⟨a4, rfl, by decide, x4⟩
        | n + 2, hx => cases hx
      obtain ⟨a, rfl, hi1, hx'⟩ := hv
      obtain ⟨d, h1, h2⟩ := id hx'
      refine ⟨.ref a, rfl, a, d, _, _, rfl, h1, h2, rfl, .ref l, rfl, _, _, dL, dL, shp_l2 _ _, shp_l2 _ _, false, congrArg V.bl (eqv_l2 _ _), ?_⟩
      refine iteF ?_
      refine ⟨.ref a, rfl, a, d, _, _, rfl, h1, h2, rfl, .ref r, rfl, _, _, dR, dR, shp_l2 _ _, shp_l2 _ _, false, congrArg V.bl (eqv_l2 _ _), ?_⟩
      refine iteF ?_
      refine ⟨.ref a, rfl, a, _, rfl, hx', true, rfl, ?_⟩
      refine iteF ?_
      exact ⟨rfl, hi1, _, rfl⟩
    · rintro σ' H' ⟨rfl, _, c, rfl⟩
      obtain ⟨d, h1, h2⟩ := x5
      refine ⟨.ref a5, rfl, a5, d, _, _, rfl, h1, h2, rfl, .ref l, rfl, _, _, dL, dL, shp_l2 _ _, shp_l2 _ _, false, congrArg V.bl (eqv_l2 _ _), ?_⟩
      refine iteF ?_
      refine ⟨.ref a5, rfl, a5, d, _, _, rfl, h1, h2, rfl, .ref r, rfl, _, _, dR, dR, shp_l2 _ _, shp_l2 _ _, false, congrArg V.bl (eqv_l2 _ _), ?_⟩
      refine iteF ?_
      refine ⟨.ref a5, rfl, a5, d, _, .ref ad.PaperError, .ref ad.PaperError, false, rfl, h1, h2, rl, U.k_InvalidSketch_PaperError, false, rfl, ?_⟩
      refine iteF ?_
      refine ⟨.ref a5, rfl, a5, d, _, .ref ad.PlanError, .ref ad.PlanError, false, rfl, h1, h2, rl, U.k_InvalidSketch_PlanError, false, rfl, ?_⟩
      refine iteF ?_
      refine ⟨.ref a5, rfl, a5, d, _, .ref ad.TextError, .ref ad.TextError, true, rfl, h1, h2, rl, U.k_InvalidSketch_TextError, true, rfl, ?_⟩
      refine iteT ?_
      refine ⟨.ref a5, rfl, a5, d, _, .ref ad.HangError, .ref ad.HangError, true, rfl, h1, h2, rl, U.k_InvalidSketch_HangError, true, rfl, ?_⟩
      refine iteT ?_
      refine ⟨.ref a5, rfl, a5, d, _, .ref bd.InvalidText, .ref bd.InvalidText, false, rfl, h1, h2, rl, U.k_InvalidSketch_InvalidText, false, rfl, ?_⟩
      exact k _ hF6

theorem callr_or {X : Cx} {f : Value} {r r' : List V → Hp → VK → Prop} (h : CallR X f r) (h' : CallR X f r') : CallR X f (fun xs H Q => r xs H Q ∨ r' xs H Q) := by
  intro pins s σ H xs us Q I rr q
  rcases q with q | q
  · exact h pins s σ H xs us Q I rr q
  · exact h' pins s σ H xs us Q I rr q
theorem call_is4 {X : Cx} {C1 C2 C3 C4 : Addr} (h1 : XcC X.K C1) (h2 : XcC X.K C2) (h3 : XcC X.K C3) (h4 : XcC X.K C4) : CallR X (.builtin "isinstance") (fun xs H Q => rIsV X.K C1 xs H Q ∨ (rIsV X.K C2 xs H Q ∨ (rIsV X.K C3 xs H Q ∨ rIsV X.K C4 xs H Q))) :=
  callr_or (call_isV h1) (callr_or (call_isV h2) (callr_or (call_isV h3) (call_isV h4)))
theorem is4_i {K : PySem.W.Frag} {C1 C2 C3 C4 E : Addr} {xs : List V} {H : Hp} {Q : VK} (e : E = C1 ∨ E = C2 ∨ E = C3 ∨ E = C4) (h : rIsV K E xs H Q) : rIsV K C1 xs H Q ∨ (rIsV K C2 xs H Q ∨ (rIsV K C3 xs H Q ∨ rIsV K C4 xs H Q)) := by
  rcases e with rfl | rfl | rfl | rfl
  · exact .inl h
  · exact .inr (.inl h)
  · exact .inr (.inr (.inl h))
  · exact .inr (.inr (.inr h))
theorem f_l_errors {bd : Bds} {a_l_errors : Addr} {fd_l_errors : FuncData} (T : Tx K mg C fI fdI ad) (U : Ty P w K mg base C fI fdI ad bd) (F : Fun K "_law_errors" "_law_errors" s_l_errors a_l_errors fd_l_errors) : FnOk P w K mg base (L2N.CX P w) 3 a_l_errors fd_l_errors ["_law_first", "_law_second"] (spC K 2 c_l_errors) := by
  refine FnOk.imp (sp := spTwo) ?_ (two_imp fun ss Q X h => h)
  obtain ⟨oc, od, kV', doc, pm, an, cdv, ct, osl, rfl, lk, hcd⟩ := F.ex
  have sc := sc_l_errors
  refine fn_of lk hcd sc_l_errors (fun vs H Q E h => by obtain ⟨a, b, rfl, _⟩ := h; rfl) fun A outer s H vs Q E hr h => ?_
  obtain ⟨x, y, rfl, k⟩ := h
  have kw_Unfit_K := kwc_mk (ps := ["self", "barring"]) U.B_Unfit.fn 0 ["barring"] [0] (fun _ _ _ _ _ _ _ us ws l1 l2 => match us, ws, l1, l2 with | [], [_], _, _ => rfl)
  have kw_InvalidEvent_K := kwc_mk (ps := ["self", "event", "reason"]) U.B_InvalidEvent.fn 0 ["reason", "event"] [1, 0] (fun _ _ _ _ _ _ _ us ws l1 l2 => match us, ws, l1, l2 with | [], [_, _], _, _ => rfl)
  have kw_NothingToUndo_P := kwc_mk (ps := ["self", "steps"]) U.B_NothingToUndo.fn 1 [] [0] (fun _ _ _ _ _ _ _ us ws l1 l2 => match us, ws, l1, l2 with | [_], [], _, _ => rfl)
  have kw_InvalidText_M := kwc_mk (ps := ["self", "line", "field"]) U.B_InvalidText.fn 1 ["field"] [0, 1] (fun _ _ _ _ _ _ _ us ws l1 l2 => match us, ws, l1, l2 with | [_], [_], _, _ => rfl)
  have rl : ∀ {x : Addr} (u : Value), RelV (.ref x) u → u = .ref x := fun u h => h
  have rt : ∀ {x : String} (u : Value), RelV (.ty x) u → u = .type x := fun u h => h
  refine ⟨_, (pss_cons (ps_set (i := 2) sc.nd rfl (Or.inl rfl) (pe_lst (pa_cons (pv 0) pa_nil)))
    (pss_cons (ps_set (i := 3) sc.nd rfl (Or.inl rfl) (pe_lst (pa_cons (pv 1) pa_nil)))
    (pss_cons (ps_set (i := 4) sc.nd rfl (Or.inl rfl) (pe_exvK U.B_Unfit.oex U.B_Unfit.hi U.B_Unfit.ti U.B_Unfit.ini (hr.mono (by decide)) kw_Unfit_K passN (by rfl) U.B_Unfit.m (pk_cons (pv 2) pk_nil)))
    (pss_cons (ps_set (i := 5) sc.nd rfl (Or.inl rfl) (pe_exvK U.B_InvalidEvent.oex U.B_InvalidEvent.hi U.B_InvalidEvent.ti U.B_InvalidEvent.ini (hr.mono (by decide)) kw_InvalidEvent_K passN (by rfl) U.B_InvalidEvent.m (pk_cons (pv 3) (pk_cons (pv 2) pk_nil))))
    (pss_cons (ps_set (i := 6) sc.nd rfl (Or.inl rfl) (pe_exvP U.B_NothingToUndo.oex U.B_NothingToUndo.hi U.B_NothingToUndo.ti U.B_NothingToUndo.ini (hr.mono (by decide)) kw_NothingToUndo_P passN (by rfl) U.B_NothingToUndo.m (pa_cons (pv 2) pa_nil)))
    (pss_cons (ps_set (i := 7) sc.nd rfl (Or.inl rfl) (pe_exvM U.B_InvalidText.oex U.B_InvalidText.hi U.B_InvalidText.ti U.B_InvalidText.ini (hr.mono (by decide)) kw_InvalidText_M passN (by rfl) U.B_InvalidText.m (pa_cons (pv 2) pa_nil) (pk_cons (pv 3) pk_nil)))
    (pss_cons (ps_expr (pe_bm PySem.F.plainAttrs_list PySem.F.slot_list_append PySem.F.type_list_append mt_append (pv 2) (pa_cons (pv 1) pa_nil)))
    (pss_cons (ps_expr (pe_bm PySem.F.plainAttrs_list PySem.F.slot_list_append PySem.F.type_list_append mt_append (pv 3) (pa_cons pe_int pa_nil)))
    (pss_cons (ps_if (PW.pt (pw_or (pt_cmpR (op_neD hr.units) (pe_xat U.B_Unfit.xf U.n_Unfit_barring (pv 4)) (pv 2) (nomark _)) (pw_or (pt_not (pt_val (pe_callB (call_isV U.B_Unfit.xc) (by rfl) T.b_isinstance (by decide +kernel) (pa_cons (pv 4) (pa_cons (pe_glob (v := .ref ad.PlanError) (by rfl) T.m_PlanError rfl) pa_nil))))) (pw_or1 (pt_val (pe_callB (call_isV U.B_Unfit.xc) (by rfl) T.b_isinstance (by decide +kernel) (pa_cons (pv 4) (pa_cons (pe_glob (v := .ref C) (by rfl) U.B_NotUsable.m rfl) pa_nil)))))))) (pss_one (ps_ret pe_bl)) pss_nil)
    (pss_cons (ps_if (PW.pt (pw_or (pt_cmpR (op_neD hr.units) (pe_xat U.B_InvalidEvent.xf U.n_InvalidEvent_event (pv 5)) (pv 2) (nomark _)) (pw_or (pt_cmpR (op_neD hr.units) (pe_xat U.B_InvalidEvent.xf U.n_InvalidEvent_reason (pv 5)) (pv 3) (nomark _)) (pw_or (pt_not (pt_val (pe_callB (call_isV U.B_InvalidEvent.xc) (by rfl) T.b_isinstance (by decide +kernel) (pa_cons (pv 5) (pa_cons (pe_glob (v := .ref ad.LiveError) (by rfl) T.m_LiveError rfl) pa_nil))))) (pw_or1 (pt_val (pe_callB (call_isV U.B_InvalidEvent.xc) (by rfl) T.b_isinstance (by decide +kernel) (pa_cons (pv 5) (pa_cons (pe_glob (v := .ref ad.PlanError) (by rfl) T.m_PlanError rfl) pa_nil))))))))) (pss_one (ps_ret pe_bl)) pss_nil)
    (pss_cons (ps_if (PW.pt (pw_or (pt_cmpR (op_neD hr.units) (pe_xat U.B_NothingToUndo.xf U.n_NothingToUndo_steps (pv 6)) (pv 2) (nomark _)) (pw_or (pt_not (pt_val (pe_callB (call_isV U.B_NothingToUndo.xc) (by rfl) T.b_isinstance (by decide +kernel) (pa_cons (pv 6) (pa_cons (pe_glob (v := .ref ad.LiveError) (by rfl) T.m_LiveError rfl) pa_nil))))) (pw_or1 (pt_val (pe_callB (call_isV U.B_NothingToUndo.xc) (by rfl) T.b_isinstance (by decide +kernel) (pa_cons (pv 6) (pa_cons (pe_glob (v := .ref bd.InvalidEvent) (by rfl) U.B_InvalidEvent.m rfl) pa_nil)))))))) (pss_one (ps_ret pe_bl)) pss_nil)
    (pss_cons (ps_if (PW.pt (pw_or (pt_cmpR (op_neD hr.units) (pe_xat U.B_InvalidText.xf U.n_InvalidText_line (pv 7)) (pv 2) (nomark _)) (pw_or (pt_cmpR (op_neD hr.units) (pe_xat U.B_InvalidText.xf U.n_InvalidText_field (pv 7)) (pv 3) (nomark _)) (pw_or (pt_not (pt_val (pe_callB (call_isV U.B_InvalidText.xc) (by rfl) T.b_isinstance (by decide +kernel) (pa_cons (pv 7) (pa_cons (pe_glob (v := .ref ad.TextError) (by rfl) T.m_TextError rfl) pa_nil))))) (pw_or1 (pt_val (pe_callB (call_isV U.B_InvalidText.xc) (by rfl) T.b_isinstance (by decide +kernel) (pa_cons (pv 7) (pa_cons (pe_glob (v := .ref bd.InvalidSketch) (by rfl) U.B_InvalidSketch.m rfl) pa_nil))))))))) (pss_one (ps_ret pe_bl)) pss_nil)
    (pss_cons (ps_for .leaving rfl (pi_list (pe_lst (pa_cons (pv 4) (pa_cons (pv 5) (pa_cons (pv 6) (pa_cons (pv 7) pa_nil)))))) (pg_name (i := 8) sc.nd rfl (Or.inl rfl)) (pss_one (ps_if (PW.pt (pw_or (pt_not (pt_val (pe_callB (call_is4 U.B_Unfit.xc U.B_InvalidEvent.xc U.B_NothingToUndo.xc U.B_InvalidText.xc) (by rfl) T.b_isinstance (by decide +kernel) (pa_cons (pv 8) (pa_cons (pe_glob (v := .ref ad.HangError) (by rfl) T.m_HangError rfl) pa_nil))))) (pw_or (pt_not (pt_val (pe_callB (call_is4 U.B_Unfit.xc U.B_InvalidEvent.xc U.B_NothingToUndo.xc U.B_InvalidText.xc) (by rfl) T.b_isinstance (by decide +kernel) (pa_cons (pv 8) (pa_cons (pe_bltn (v := .ty "ValueError") (u := .type "ValueError") (by rfl) T.b_ValueError (by decide +kernel) rfl) pa_nil))))) (pw_or1 (pt_val (pe_callB (call_is4 U.B_Unfit.xc U.B_InvalidEvent.xc U.B_NothingToUndo.xc U.B_InvalidText.xc) (by rfl) T.b_isinstance (by decide +kernel) (pa_cons (pv 8) (pa_cons (pe_glob (v := .ref ad.PaperError) (by rfl) T.m_PaperError rfl) pa_nil)))))))) (pss_one (ps_ret pe_bl)) pss_nil)))
    (pss_one (ps_ret (pe_and (pe_not (pe_callB (call_isV U.B_InvalidEvent.xc) (by rfl) T.b_isinstance (by decide +kernel) (pa_cons (pv 5) (pa_cons (pe_glob (v := .ref bd.NothingToUndo) (by rfl) U.B_NothingToUndo.m rfl) pa_nil)))) (pe_one (pe_not (pe_callB (call_isV U.B_InvalidText.xc) (by rfl) T.b_isinstance (by decide +kernel) (pa_cons (pv 7) (pa_cons (pe_glob (v := .ref ad.LiveError) (by rfl) T.m_LiveError rfl) pa_nil))))))))))))))))))))), ?_⟩
  refine ⟨.int x, rfl, line_le (show 1 ≤ 16777216 by decide), fun l hl => ?_⟩
  refine ⟨.int y, rfl, line_le (show 1 ≤ 16777216 by decide), fun r hr' => ?_⟩
  have ne : r ≠ l := fun z => by rw [z, upd_same] at hr'; cases hr'
  refine ⟨.ref l, rfl, rfl, rfl, (show 0 ≤ 1000 by decide), fun a1 d1 H1 ha1 hd1 ne1 m1 e1 f1 => ?_⟩
  refine ⟨.ref r, rfl, .ref l, rfl, rfl, rfl, (show 0 ≤ 1000 by decide), fun a2 d2 H2 ha2 hd2 ne2 m2 e2 f2 => ?_⟩
  refine ⟨.ref l, rfl, rfl, rfl, (show 1 ≤ 1000 by decide), fun a3 d3 H3 ha3 hd3 ne3 m3 e3 f3 => ?_⟩
  refine ⟨.ref l, rfl, .ref r, rfl, rfl, rfl, rfl, (show 1 ≤ 1000 by decide), fun a4 d4 H4 ha4 hd4 ne4 m4 e4 f4 => ?_⟩
  have hL0 : (upd (upd H l (.lst [.int x])) r (.lst [.int y])) l = some (.lst [.int x]) := by rw [upd_ne ne.symm, upd_same]
  have m14 : ∀ b o, H1 b = some o → H4 b = some o := fun b o e => m4 _ _ (m3 _ _ (m2 _ _ e))
  have hL : H4 l = some (.lst [.int x]) := m14 _ _ (m1 _ _ hL0)
  have hR : H4 r = some (.lst [.int y]) := m14 _ _ (m1 _ _ upd_same)
  have x1 : ExcAt H4 a1 ad.Unfit [("barring", .ref l)] := ⟨d1, m14 _ _ e1, m14 _ _ f1⟩
  have x2 : ExcAt H4 a2 bd.InvalidEvent [("reason", .ref r), ("event", .ref l)] := ⟨d2, m4 _ _ (m3 _ _ e2), m4 _ _ (m3 _ _ f2)⟩
  have x3 : ExcAt H4 a3 bd.NothingToUndo [("steps", .ref l)] := ⟨d3, m4 _ _ e3, m4 _ _ f3⟩
  have x4 : ExcAt H4 a4 bd.InvalidText [("field", .ref r), ("line", .ref l)] := ⟨d4, e4, f4⟩
  have hF : ∀ d o, H d = some o → H4 d = some o ∧ d ≠ l ∧ d ≠ r := fun d o e => by
    have nl : d ≠ l := ne_of_none e hl
    have nr : d ≠ r := ne_of_none (by rw [upd_ne nl]; exact e) hr'
    exact ⟨m14 _ _ (m1 _ _ (by rw [upd_ne nr, upd_ne nl]; exact e)), nl, nr⟩
  refine ⟨.ref l, rfl, .inl ⟨rfl, _, Evl.sq_of hL⟩, .int y, rfl, l, _, .int y, rfl, rfl, hL, Nat.lt_of_lt_of_le (show 1 < 16777216 by decide) (line_le (Nat.le_refl _)), ?_⟩
  have hR1 : (upd H4 l (.lst ([V.int x] ++ [V.int y]))) r = some (.lst [.int y]) := by rw [upd_ne ne]; exact hR
  refine ⟨.ref r, rfl, .inl ⟨rfl, _, Evl.sq_of hR1⟩, r, _, .int 4, rfl, rfl, hR1, Nat.lt_of_lt_of_le (show 1 < 16777216 by decide) (line_le (Nat.le_refl _)), ?_⟩
  have up : ∀ {a D : Addr} {fs : List (Str × V)}, ExcAt H4 a D fs → ExcAt (upd (upd H4 l (.lst ([V.int x] ++ [V.int y]))) r (.lst ([V.int y] ++ [V.int 4]))) a D fs := fun h => (h.up hL).up hR1
  have hL6 : (upd (upd H4 l (.lst ([V.int x] ++ [V.int y]))) r (.lst ([V.int y] ++ [V.int 4]))) l = some (.lst [.int x, .int y]) := by rw [upd_ne ne.symm, upd_same]; rfl
  have hR6 : (upd (upd H4 l (.lst ([V.int x] ++ [V.int y]))) r (.lst ([V.int y] ++ [V.int 4]))) r = some (.lst [.int y, .int 4]) := upd_same
  have hF6 : ∀ d o, H d = some o → (upd (upd H4 l (.lst ([V.int x] ++ [V.int y]))) r (.lst ([V.int y] ++ [V.int 4]))) d = some o := fun d o e => by
    obtain ⟨h1, nl, nr⟩ := hF d o e
    rw [upd_ne nr, upd_ne nl]; exact h1
  replace x1 := up x1
  replace x2 := up x2
  replace x3 := up x3
  replace x4 := up x4
  generalize (upd (upd H4 l (.lst ([V.int x] ++ [V.int y]))) r (.lst ([V.int y] ++ [V.int 4]))) = H6 at hL6 hR6 hF6 x1 x2 x3 x4 ⊢
  have dL := dp_l2 (K := K) hL6
  have dR := dp_l2 (K := K) hR6

  obtain ⟨d, h1, h2⟩ := id x1
  refine ⟨.ref a1, rfl, a1, d, _, _, rfl, h1, h2, rfl, .ref l, rfl, _, _, dL, dL, shp_l2 _ _, shp_l2 _ _, false, congrArg V.bl (eqv_l2 _ _), ?_⟩
  refine iteF ?_
  refine ⟨.ref a1, rfl, a1, d, _, .ref ad.PlanError, .ref ad.PlanError, true, rfl, h1, h2, rl, U.k_Unfit_PlanError, true, rfl, ?_⟩
  refine iteF ?_
  refine ⟨.ref a1, rfl, a1, d, _, .ref C, .ref C, false, rfl, h1, h2, rl, U.k_Unfit_NotUsable, false, rfl, ?_⟩
  refine iteF ?_
  obtain ⟨d, h1, h2⟩ := id x2
  refine ⟨.ref a2, rfl, a2, d, _, _, rfl, h1, h2, rfl, .ref l, rfl, _, _, dL, dL, shp_l2 _ _, shp_l2 _ _, false, congrArg V.bl (eqv_l2 _ _), ?_⟩
  refine iteF ?_
  refine ⟨.ref a2, rfl, a2, d, _, _, rfl, h1, h2, rfl, .ref r, rfl, _, _, dR, dR, shp_l2 _ _, shp_l2 _ _, false, congrArg V.bl (eqv_l2 _ _), ?_⟩
  refine iteF ?_
  refine ⟨.ref a2, rfl, a2, d, _, .ref ad.LiveError, .ref ad.LiveError, true, rfl, h1, h2, rl, U.k_InvalidEvent_LiveError, true, rfl, ?_⟩
  refine iteF ?_
  refine ⟨.ref a2, rfl, a2, d, _, .ref ad.PlanError, .ref ad.PlanError, false, rfl, h1, h2, rl, U.k_InvalidEvent_PlanError, false, rfl, ?_⟩
  refine iteF ?_
  obtain ⟨d, h1, h2⟩ := id x3
  refine ⟨.ref a3, rfl, a3, d, _, _, rfl, h1, h2, rfl, .ref l, rfl, _, _, dL, dL, shp_l2 _ _, shp_l2 _ _, false, congrArg V.bl (eqv_l2 _ _), ?_⟩
  refine iteF ?_
  refine ⟨.ref a3, rfl, a3, d, _, .ref ad.LiveError, .ref ad.LiveError, true, rfl, h1, h2, rl, U.k_NothingToUndo_LiveError, true, rfl, ?_⟩
  refine iteF ?_
  refine ⟨.ref a3, rfl, a3, d, _, .ref bd.InvalidEvent, .ref bd.InvalidEvent, false, rfl, h1, h2, rl, U.k_NothingToUndo_InvalidEvent, false, rfl, ?_⟩
  refine iteF ?_
  obtain ⟨d, h1, h2⟩ := id x4
  refine ⟨.ref a4, rfl, a4, d, _, _, rfl, h1, h2, rfl, .ref l, rfl, _, _, dL, dL, shp_l2 _ _, shp_l2 _ _, false, congrArg V.bl (eqv_l2 _ _), ?_⟩
  refine iteF ?_
  refine ⟨.ref a4, rfl, a4, d, _, _, rfl, h1, h2, rfl, .ref r, rfl, _, _, dR, dR, shp_l2 _ _, shp_l2 _ _, false, congrArg V.bl (eqv_l2 _ _), ?_⟩
  refine iteF ?_
  refine ⟨.ref a4, rfl, a4, d, _, .ref ad.TextError, .ref ad.TextError, true, rfl, h1, h2, rl, U.k_InvalidText_TextError, true, rfl, ?_⟩
  refine iteF ?_
  refine ⟨.ref a4, rfl, a4, d, _, .ref bd.InvalidSketch, .ref bd.InvalidSketch, false, rfl, h1, h2, rl, U.k_InvalidText_InvalidSketch, false, rfl, ?_⟩
  refine iteF ?_
  refine ⟨.ref a1, rfl, .ref a2, rfl, .ref a3, rfl, .ref a4, rfl, line_le (show 4 ≤ 16777216 by decide), fun p hp => ?_⟩
  have mu : ∀ b o, H6 b = some o → upd H6 p (.lst [.ref a1, .ref a2, .ref a3, .ref a4]) b = some o := fun b o e => by rw [upd_ne (ne_of_none e hp)]; exact e
  have hP : upd H6 p (.lst [.ref a1, .ref a2, .ref a3, .ref a4]) p = some (.lst [.ref a1, .ref a2, .ref a3, .ref a4]) := upd_same
  replace x1 := x1.mono mu
  replace x2 := x2.mono mu
  replace x3 := x3.mono mu
  replace x4 := x4.mono mu
  replace hF6 : ∀ d o, H d = some o → upd H6 p (.lst [.ref a1, .ref a2, .ref a3, .ref a4]) d = some o := fun d o e => mu _ _ (hF6 d o e)
  generalize upd H6 p (.lst [.ref a1, .ref a2, .ref a3, .ref a4]) = H7 at hP hF6 x1 x2 x3 x4 ⊢
  refine ⟨p, rfl, ⟨_, Evl.sq_of hP⟩, L2.for_list (fun i σ' H' => H' = H7 ∧ i ≤ 4 ∧ ∃ c, σ' = [some (.int x), some (.int y), some (.ref l), some (.ref r), some (.ref a1), some (.ref a2), some (.ref a3), some (.ref a4), c]) ⟨rfl, Nat.zero_le _, none, rfl⟩ (fun i σ' H' _ z => by rw [z.1]; exact Evl.sq_of hP) ?_ ?_⟩
  · rintro i v σ' H' hx ⟨rfl, hi, c, rfl⟩
    have hv : ∃ (a E : Addr) (fs : List (Str × V)), v = .ref a ∧ i + 1 ≤ 4 ∧ ExcAt H' a E fs ∧ (E = ad.Unfit ∨ E = bd.InvalidEvent ∨ E = bd.NothingToUndo ∨ E = bd.InvalidText) ∧ PySem.W.kitOne K (.ref E) (.ref ad.HangError) = some true ∧ PySem.W.kitOne K (.ref E) (.type "ValueError") = some true ∧ PySem.W.kitOne K (.ref E) (.ref ad.PaperError) = some false := by
      match i, hx with
      | 0, hx => cases hx; exact ⟨a1, _, _, rfl, by decide, x1, .inl rfl, U.k_Unfit_HangError, U.k_Unfit_ValueError, U.k_Unfit_PaperError⟩
      | 1, hx => cases hx; exact ⟨a2, _, _, rfl, by decide, x2, .inr (.inl rfl), U.k_InvalidEvent_HangError, U.k_InvalidEvent_ValueError, U.k_InvalidEvent_PaperError⟩
      | 2, hx => cases hx; exact ⟨a3, _, _, rfl, by decide, x3, .inr (.inr (.inl rfl)), U.k_NothingToUndo_HangError, U.k_NothingToUndo_ValueError, U.k_NothingToUndo_PaperError⟩
      | 3, hx => cases hx; exact ⟨a4, _, _, rfl, by decide, x4, .inr (.inr (.inr rfl)), U.k_InvalidText_HangError, U.k_InvalidText_ValueError, U.k_InvalidText_PaperError⟩
      | n + 4, hx => cases hx
    obtain ⟨a, E, fs, rfl, hi1, ⟨d, h1, h2⟩, hE, kHangError, kValueError, kPaperError⟩ := hv
    refine ⟨.ref a, rfl, is4_i hE ⟨a, d, _, .ref ad.HangError, .ref ad.HangError, true, rfl, h1, h2, rl, kHangError, true, rfl, ?_⟩⟩
    refine iteF ?_
    refine ⟨.ref a, rfl, is4_i hE ⟨a, d, _, .ty "ValueError", .type "ValueError", true, rfl, h1, h2, rt, kValueError, true, rfl, ?_⟩⟩
    refine iteF ?_
    refine ⟨.ref a, rfl, is4_i hE ⟨a, d, _, .ref ad.PaperError, .ref ad.PaperError, false, rfl, h1, h2, rl, kPaperError, false, rfl, ?_⟩⟩
    refine iteF ?_
    exact ⟨rfl, hi1, _, rfl⟩
  · rintro σ' H' ⟨rfl, _, c, rfl⟩
    obtain ⟨d, h1, h2⟩ := x2
    obtain ⟨d4, h41, h42⟩ := x4
    refine ⟨.ref a2, rfl, a2, d, _, .ref bd.NothingToUndo, .ref bd.NothingToUndo, false, rfl, h1, h2, rl, U.k_InvalidEvent_NothingToUndo, false, rfl, true, rfl, ?_⟩
    refine iteT ?_
    exact ⟨.ref a4, rfl, a4, d4, _, .ref ad.LiveError, .ref ad.LiveError, false, rfl, h41, h42, rl, U.k_InvalidText_LiveError, false, rfl, k _ hF6⟩
end
end K00
-- K00z
set_option Elab.async false
set_option linter.all false
set_option maxRecDepth 100000
set_option maxHeartbeats 4000000
open PySem L2
namespace K00
open Hw
/-- the law: true, of any list of ints -/
def spLaw (K : PySem.W.Frag) : Sp := fun vs H Q _ => ∃ (a : Addr) (ns : List Int), vs = [.ref a] ∧ SqL K H a (ns.map V.int) ∧ ∀ H', Q (.bl true) H'
theorem exm_of {K : PySem.W.Frag} {S : Addr} (h1 : PySem.W.subIn K (.ref S) (.type "BaseException") = some true) (h2 : PySem.W.isClsIn K S = true) (h3 : PySem.W.typeIn K (.ref S) = some (.type "type")) (h4 : PySem.W.subIn K (.ref S) (.ref S) = some true) : PySem.W.exmOne K (.ref S) (.ref S) = some true := by
  have h2' : (PySem.W.clsIn K S).isSome = true := h2
  unfold PySem.W.exmOne PySem.W.kitCls
  simp [h1, h2', h3, h4]
theorem kit_ref {K : PySem.W.Frag} {C D : Addr} {b : Bool} (i : PySem.W.isClsIn K D = true) (t : PySem.W.typeIn K (.ref D) = some (.type "type")) (s : PySem.W.subIn K (.ref C) (.ref D) = some b) (n : (Value.ref C == Value.ref D) = false) : PySem.W.kitOne K (.ref C) (.ref D) = some b := by
  have i' : (PySem.W.clsIn K D).isSome = true := i
  unfold PySem.W.kitOne PySem.W.kitCls
  rw [n]
  simp [i', t, s]
theorem kit_bty {K : PySem.W.Frag} {C : Addr} {T : String} {b : Bool} (h : PySem.W.kitMeta T = true) (s : PySem.W.subIn K (.ref C) (.type T) = some b) : PySem.W.kitOne K (.ref C) (.type T) = some b := by
  have n : (Value.ref C == Value.type T) = false := rfl
  unfold PySem.W.kitOne PySem.W.kitCls
  rw [n]
  simp [h, s]
theorem f_none {P : Program} {w : World} {K : PySem.W.Frag} {mg : Str → Option Value} {base : Heap} {x qual : Str} {st : Stmt} {f : Addr} {fd : FuncData} {N ps : List Str} {n : Nat} (F : Fun K x qual st f fd) (S : FnScope N ps (defScope st)) : FnOk P w K mg base (L2N.CX P w) 1 f fd ps (spC K n cF) := by
  obtain ⟨oc, od, kV, doc, pm, an, cdv, ct, osl, rfl, lk, hcd⟩ := F.ex
  exact fn_of lk hcd S (fun vs H Q E h => by obtain ⟨_, _, _, _, _, _, _, _, h, _⟩ := h; exact h.elim) fun A outer s H vs Q E hr h => by obtain ⟨_, _, _, _, _, _, _, _, h, _⟩ := h; exact h.elim
section
variable {P : Program} {w : World} {K : PySem.W.Frag} {mg : Str → Option Value} {base : Heap} {C fI : Addr} {fdI : FuncData} {ad : Ads}
theorem f_law {a_law a_l_pool : Addr} {fd_law fd_l_pool : FuncData} (F : Fun K "law" "law" s_law a_law fd_law) (HP : FnOk P w K mg base (L2N.CX P w) 1 a_l_pool fd_l_pool ["_law_script"] (spPool K)) (mP : mg "_law_pool" = some (.ref a_l_pool)) (kP : PySem.W.keepIn K (.ref a_l_pool) = true) (bP : Binds K fd_l_pool ["_law_script"] [])
    (hd : ∀ (cdv : Value) (A : Around) (outer : List Env) (s : Shared) (H : Hp) (E : XK), Room 7 (cxOf (L2N.CX P w) P w K mg base N_law "law" (defScope s_law) a_law cdv A outer s H E).A → L2N.Takes (cxOf (L2N.CX P w) P w K mg base N_law "law" (defScope s_law) a_law cdv A outer s H E) (fun cls d _ H => E cls d H) →
      PSsd (cxOf (L2N.CX P w) P w K mg base N_law "law" (defScope s_law) a_law cdv A outer s H E) (fun cls d _ H => E cls d H) (defBody s_law).tail (w_law C)) : FnOk P w K mg base (L2N.CX P w) 8 a_law fd_law ["_law_script"] (spLaw K) := by
  obtain ⟨oc, od, kV, doc, pm, an, cdv, ct, osl, rfl, lk, hcd⟩ := F.ex
  refine fn_of lk hcd sc_law (fun vs H Q E h => by obtain ⟨a, ns, rfl, _⟩ := h; rfl) fun A outer s H vs Q E hr h => ?_
  obtain ⟨a, ns, rfl, hs, k⟩ := h
  have tk := L2N.takes_of (X := cxOf (L2N.CX P w) P w K mg base N_law "law" (defScope s_law) a_law cdv A outer s H E) rfl rfl rfl rfl
  refine ⟨_, pss_cons (ps_set (i := 1) sc_law.nd rfl (Or.inl rfl) (pe_callS HP (hr.mono (by decide)) (by rfl) mP kP bP (fun σ => L2N.passAt tk σ) (pa_cons (pv 0) pa_nil))) (hd cdv A outer s H E hr tk), ?_⟩
  refine ⟨.ref a, rfl, a, ns, rfl, hs, fun p l seed n hl hp ne => ?_⟩
  refine ⟨⟨fun _ => none, fun _ => none, [], some (p, l)⟩, fun _ => none, [.un, .pool, .un, .un, .un, .un, .un, .un, .un, .un, .un], endsOf (fun d => d = .bool true) (fun _ => False), ⟨?_, rfl, ?_, ?_⟩, r_law C _ _ rfl, ?_⟩
  · exact {
      fh := fun a o z => by cases z
      f0 := fun a o z => by cases z
      fresh := fun a o z => by cases z
      keep := fun a o z => by cases z
      dom := fun _ _ => rfl
      pool := fun p' l' e => by
        cases e
        exact ⟨⟨rfl, rfl, ne, 0, 0, seed, n, ns, upd_same, by rw [upd_ne ne.symm, upd_same]⟩, .inr rfl, .inr rfl⟩ }
  · intro i s' hs'
    match i, hs' with
    | 0, e => cases e; exact True.intro
    | 1, e => cases e; exact ⟨p, l, rfl, rfl⟩
    | 2, e => cases e; exact True.intro
    | 3, e => cases e; exact True.intro
    | 4, e => cases e; exact True.intro
    | 5, e => cases e; exact True.intro
    | 6, e => cases e; exact True.intro
    | 7, e => cases e; exact True.intro
    | 8, e => cases e; exact True.intro
    | 9, e => cases e; exact True.intro
    | 10, e => cases e; exact True.intro
    | n + 11, e => cases e
  · intro i j xs ys ad h1 h2 h3 h4
    match i, h1 with
    | 0, e => cases e
    | 1, e => cases e
    | 2, e => cases e
    | 3, e => cases e
    | 4, e => cases e
    | 5, e => cases e
    | 6, e => cases e
    | 7, e => cases e
    | 8, e => cases e
    | 9, e => cases e
    | 10, e => cases e
    | n + 11, e => cases e
  · exact ⟨fun σ' H' F' env' so _ q => (by cases q), fun _ _ _ _ _ _ z => z.elim, fun _ _ _ _ _ _ z => z.elim, fun v H' F' d fo hv q => (by cases q; rw [dp_bl hv]; exact k H'), fun cc dd σ' H' F' env' x so _ hx' q => q.elim⟩
end
theorem all_mk {P : Program} {w : World} {K : PySem.W.Frag} {h : Heap} {mg : Str → Option Value} {fa : Addr} (X : K.In h) (G : h.Ns mainGlobals mg) (hfa : mg "law" = some (.ref fa))
    {t_CHUNK : Tok}
    {t_CHUNK_FIGURES : Tok}
    {t_LETTERS : Tok}
    {C_HangError : Addr}
    {C_PaperError : Addr}
    {C_PlanError : Addr}
    {C_LiveError : Addr}
    {C_TextError : Addr}
    {C_InvalidPaper : Addr}
    {C_NotUsable : Addr}
    {C_Unfit : Addr}
    {C_InvalidEvent : Addr}
    {C_NothingToUndo : Addr}
    {C_InvalidSketch : Addr}
    {C_InvalidText : Addr}
    {nm_InvalidPaper q_InvalidPaper : Str} {N_InvalidPaper : Addr} {bs_InvalidPaper bm_InvalidPaper : List Value} {sn_InvalidPaper : List Str} {sub_InvalidPaper : List Value} {ab_InvalidPaper : Bool} {col_InvalidPaper : Option Bool} {dd_InvalidPaper : Option Addr} {m0_InvalidPaper m1_InvalidPaper m2_InvalidPaper m3_InvalidPaper m5_InvalidPaper : Option Value}
    {f_InvalidPaper : Addr} {odI_InvalidPaper anI_InvalidPaper : Option Addr} {slI_InvalidPaper : Array (Option Value)} {ocI_InvalidPaper kVI_InvalidPaper dcI_InvalidPaper pmI_InvalidPaper cdI_InvalidPaper ctI_InvalidPaper : Value}
    {nm_NotUsable q_NotUsable : Str} {N_NotUsable : Addr} {bs_NotUsable bm_NotUsable : List Value} {sn_NotUsable : List Str} {sub_NotUsable : List Value} {ab_NotUsable : Bool} {col_NotUsable : Option Bool} {dd_NotUsable : Option Addr} {m0_NotUsable m1_NotUsable m2_NotUsable m3_NotUsable m5_NotUsable : Option Value}
    {f_NotUsable : Addr} {odI_NotUsable anI_NotUsable : Option Addr} {slI_NotUsable : Array (Option Value)} {ocI_NotUsable kVI_NotUsable dcI_NotUsable pmI_NotUsable cdI_NotUsable ctI_NotUsable : Value}
    {nm_Unfit q_Unfit : Str} {N_Unfit : Addr} {bs_Unfit bm_Unfit : List Value} {sn_Unfit : List Str} {sub_Unfit : List Value} {ab_Unfit : Bool} {col_Unfit : Option Bool} {dd_Unfit : Option Addr} {m0_Unfit m1_Unfit m2_Unfit m3_Unfit m5_Unfit : Option Value}
    {f_Unfit : Addr} {odI_Unfit anI_Unfit : Option Addr} {slI_Unfit : Array (Option Value)} {ocI_Unfit kVI_Unfit dcI_Unfit pmI_Unfit cdI_Unfit ctI_Unfit : Value}
    {nm_InvalidEvent q_InvalidEvent : Str} {N_InvalidEvent : Addr} {bs_InvalidEvent bm_InvalidEvent : List Value} {sn_InvalidEvent : List Str} {sub_InvalidEvent : List Value} {ab_InvalidEvent : Bool} {col_InvalidEvent : Option Bool} {dd_InvalidEvent : Option Addr} {m0_InvalidEvent m1_InvalidEvent m2_InvalidEvent m3_InvalidEvent m5_InvalidEvent : Option Value}
    {f_InvalidEvent : Addr} {odI_InvalidEvent anI_InvalidEvent : Option Addr} {slI_InvalidEvent : Array (Option Value)} {ocI_InvalidEvent kVI_InvalidEvent dcI_InvalidEvent pmI_InvalidEvent cdI_InvalidEvent ctI_InvalidEvent : Value}
    {nm_NothingToUndo q_NothingToUndo : Str} {N_NothingToUndo : Addr} {bs_NothingToUndo bm_NothingToUndo : List Value} {sn_NothingToUndo : List Str} {sub_NothingToUndo : List Value} {ab_NothingToUndo : Bool} {col_NothingToUndo : Option Bool} {dd_NothingToUndo : Option Addr} {m0_NothingToUndo m1_NothingToUndo m2_NothingToUndo m3_NothingToUndo m5_NothingToUndo : Option Value}
    {f_NothingToUndo : Addr} {odI_NothingToUndo anI_NothingToUndo : Option Addr} {slI_NothingToUndo : Array (Option Value)} {ocI_NothingToUndo kVI_NothingToUndo dcI_NothingToUndo pmI_NothingToUndo cdI_NothingToUndo ctI_NothingToUndo : Value}
    {nm_InvalidSketch q_InvalidSketch : Str} {N_InvalidSketch : Addr} {bs_InvalidSketch bm_InvalidSketch : List Value} {sn_InvalidSketch : List Str} {sub_InvalidSketch : List Value} {ab_InvalidSketch : Bool} {col_InvalidSketch : Option Bool} {dd_InvalidSketch : Option Addr} {m0_InvalidSketch m1_InvalidSketch m2_InvalidSketch m3_InvalidSketch m5_InvalidSketch : Option Value}
    {f_InvalidSketch : Addr} {odI_InvalidSketch anI_InvalidSketch : Option Addr} {slI_InvalidSketch : Array (Option Value)} {ocI_InvalidSketch kVI_InvalidSketch dcI_InvalidSketch pmI_InvalidSketch cdI_InvalidSketch ctI_InvalidSketch : Value}
    {nm_InvalidText q_InvalidText : Str} {N_InvalidText : Addr} {bs_InvalidText bm_InvalidText : List Value} {sn_InvalidText : List Str} {sub_InvalidText : List Value} {ab_InvalidText : Bool} {col_InvalidText : Option Bool} {dd_InvalidText : Option Addr} {m0_InvalidText m1_InvalidText m2_InvalidText m3_InvalidText m5_InvalidText : Option Value}
    {f_InvalidText : Addr} {odI_InvalidText anI_InvalidText : Option Addr} {slI_InvalidText : Array (Option Value)} {ocI_InvalidText kVI_InvalidText dcI_InvalidText pmI_InvalidText cdI_InvalidText ctI_InvalidText : Value}
    (spec : PySem.W.specialIn K (.builtin "object.__class__") "__get__" = some (some (.builtin "getset_descriptor.__get__")))
    (takes : PySem.W.takesIn K (.builtin "object.__class__") = some true)
    (aG : PySem.W.nsIn K mainGlobals "gcd" = some (some (.builtin "math.gcd")))
    (u_CHUNK : PySem.W.nsIn K mainGlobals "CHUNK" = some (some (.int 1000000000000000000 t_CHUNK)))
    (u_CHUNK_FIGURES : PySem.W.nsIn K mainGlobals "CHUNK_FIGURES" = some (some (.int 18 t_CHUNK_FIGURES)))
    (u_LETTERS : PySem.W.nsIn K mainGlobals "LETTERS" = some (some (.str "WNES" t_LETTERS)))
    (z_ValueError : PySem.W.nsIn K mainGlobals "ValueError" = some none)
    (z_abs : PySem.W.nsIn K mainGlobals "abs" = some none)
    (z_all : PySem.W.nsIn K mainGlobals "all" = some none)
    (z_bool : PySem.W.nsIn K mainGlobals "bool" = some none)
    (z_divmod : PySem.W.nsIn K mainGlobals "divmod" = some none)
    (z_int : PySem.W.nsIn K mainGlobals "int" = some none)
    (z_isinstance : PySem.W.nsIn K mainGlobals "isinstance" = some none)
    (z_len : PySem.W.nsIn K mainGlobals "len" = some none)
    (z_list : PySem.W.nsIn K mainGlobals "list" = some none)
    (z_max : PySem.W.nsIn K mainGlobals "max" = some none)
    (z_range : PySem.W.nsIn K mainGlobals "range" = some none)
    (z_reversed : PySem.W.nsIn K mainGlobals "reversed" = some none)
    (z_str : PySem.W.nsIn K mainGlobals "str" = some none)
    (z_tuple : PySem.W.nsIn K mainGlobals "tuple" = some none)
    (a_HangError : PySem.W.nsIn K mainGlobals "HangError" = some (some (.ref C_HangError)))
    (i_HangError : PySem.W.isClsIn K C_HangError = true)
    (t_HangError : PySem.W.typeIn K (.ref C_HangError) = some (.type "type"))
    (a_PaperError : PySem.W.nsIn K mainGlobals "PaperError" = some (some (.ref C_PaperError)))
    (i_PaperError : PySem.W.isClsIn K C_PaperError = true)
    (t_PaperError : PySem.W.typeIn K (.ref C_PaperError) = some (.type "type"))
    (a_PlanError : PySem.W.nsIn K mainGlobals "PlanError" = some (some (.ref C_PlanError)))
    (i_PlanError : PySem.W.isClsIn K C_PlanError = true)
    (t_PlanError : PySem.W.typeIn K (.ref C_PlanError) = some (.type "type"))
    (a_LiveError : PySem.W.nsIn K mainGlobals "LiveError" = some (some (.ref C_LiveError)))
    (i_LiveError : PySem.W.isClsIn K C_LiveError = true)
    (t_LiveError : PySem.W.typeIn K (.ref C_LiveError) = some (.type "type"))
    (a_TextError : PySem.W.nsIn K mainGlobals "TextError" = some (some (.ref C_TextError)))
    (i_TextError : PySem.W.isClsIn K C_TextError = true)
    (t_TextError : PySem.W.typeIn K (.ref C_TextError) = some (.type "type"))
    (a_InvalidPaper : PySem.W.nsIn K mainGlobals "InvalidPaper" = some (some (.ref C_InvalidPaper)))
    (i_InvalidPaper : PySem.W.isClsIn K C_InvalidPaper = true)
    (t_InvalidPaper : PySem.W.typeIn K (.ref C_InvalidPaper) = some (.type "type"))
    (a_NotUsable : PySem.W.nsIn K mainGlobals "NotUsable" = some (some (.ref C_NotUsable)))
    (i_NotUsable : PySem.W.isClsIn K C_NotUsable = true)
    (t_NotUsable : PySem.W.typeIn K (.ref C_NotUsable) = some (.type "type"))
    (a_Unfit : PySem.W.nsIn K mainGlobals "Unfit" = some (some (.ref C_Unfit)))
    (i_Unfit : PySem.W.isClsIn K C_Unfit = true)
    (t_Unfit : PySem.W.typeIn K (.ref C_Unfit) = some (.type "type"))
    (a_InvalidEvent : PySem.W.nsIn K mainGlobals "InvalidEvent" = some (some (.ref C_InvalidEvent)))
    (i_InvalidEvent : PySem.W.isClsIn K C_InvalidEvent = true)
    (t_InvalidEvent : PySem.W.typeIn K (.ref C_InvalidEvent) = some (.type "type"))
    (a_NothingToUndo : PySem.W.nsIn K mainGlobals "NothingToUndo" = some (some (.ref C_NothingToUndo)))
    (i_NothingToUndo : PySem.W.isClsIn K C_NothingToUndo = true)
    (t_NothingToUndo : PySem.W.typeIn K (.ref C_NothingToUndo) = some (.type "type"))
    (a_InvalidSketch : PySem.W.nsIn K mainGlobals "InvalidSketch" = some (some (.ref C_InvalidSketch)))
    (i_InvalidSketch : PySem.W.isClsIn K C_InvalidSketch = true)
    (t_InvalidSketch : PySem.W.typeIn K (.ref C_InvalidSketch) = some (.type "type"))
    (a_InvalidText : PySem.W.nsIn K mainGlobals "InvalidText" = some (some (.ref C_InvalidText)))
    (i_InvalidText : PySem.W.isClsIn K C_InvalidText = true)
    (t_InvalidText : PySem.W.typeIn K (.ref C_InvalidText) = some (.type "type"))
    (xL_InvalidPaper : K.lookup C_InvalidPaper = some (excClassObj nm_InvalidPaper q_InvalidPaper C_InvalidPaper N_InvalidPaper bs_InvalidPaper bm_InvalidPaper true sn_InvalidPaper sub_InvalidPaper ab_InvalidPaper col_InvalidPaper dd_InvalidPaper m0_InvalidPaper m1_InvalidPaper m2_InvalidPaper m3_InvalidPaper m5_InvalidPaper "ValueError.__new__"))
    (xM_InvalidPaper : PySem.HandSPX.refsVE bm_InvalidPaper = true)
    (sa_InvalidPaper : PySem.W.findIn K (.ref C_InvalidPaper) "__setattr__" = some (some (.builtin "object.__setattr__")))
    (ga_InvalidPaper : PySem.W.findIn K (.ref C_InvalidPaper) "__getattribute__" = some (some (.builtin "BaseException.__getattribute__")))
    (gg_InvalidPaper : PySem.W.findIn K (.ref C_InvalidPaper) "__getattr__" = some none)
    (gc_InvalidPaper : PySem.W.findIn K (.ref C_InvalidPaper) "__class__" = some (some (.builtin "object.__class__")))
    (mo_InvalidPaper : PySem.W.mroIn K C_InvalidPaper (.type "object") = some true)
    (kC_InvalidPaper : PySem.W.keepIn K (.ref C_InvalidPaper) = true)
    (eC_InvalidPaper : PySem.W.subIn K (.ref C_InvalidPaper) (.type "BaseException") = some true)
    (hC_InvalidPaper : PySem.W.hasDictIn K C_InvalidPaper = true)
    (n_InvalidPaper_word : PySem.W.findIn K (.ref C_InvalidPaper) "word" = some none)
    (n_InvalidPaper_at : PySem.W.findIn K (.ref C_InvalidPaper) "at" = some none)
    (fi_InvalidPaper : PySem.W.findIn K (.ref C_InvalidPaper) "__init__" = some (some (.ref f_InvalidPaper)))
    (ft_InvalidPaper : PySem.W.typeIn K (.ref f_InvalidPaper) = some (.type "function"))
    (fl_InvalidPaper : K.lookup f_InvalidPaper = some ⟨ocI_InvalidPaper, odI_InvalidPaper, .func (PySem.W.fnOf "__init__" "InvalidPaper.__init__" (defArgs sI_InvalidPaper) (defBody sI_InvalidPaper) (defScope sI_InvalidPaper) .none kVI_InvalidPaper dcI_InvalidPaper pmI_InvalidPaper anI_InvalidPaper cdI_InvalidPaper ctI_InvalidPaper), slI_InvalidPaper⟩)
    (fc_InvalidPaper : PySem.W.codeIn K cdI_InvalidPaper "InvalidPaper.__init__" = true)
    (fk_InvalidPaper : PySem.W.keepIn K (.ref f_InvalidPaper) = true)
    (xL_NotUsable : K.lookup C_NotUsable = some (excClassObj nm_NotUsable q_NotUsable C_NotUsable N_NotUsable bs_NotUsable bm_NotUsable true sn_NotUsable sub_NotUsable ab_NotUsable col_NotUsable dd_NotUsable m0_NotUsable m1_NotUsable m2_NotUsable m3_NotUsable m5_NotUsable "ValueError.__new__"))
    (xM_NotUsable : PySem.HandSPX.refsVE bm_NotUsable = true)
    (sa_NotUsable : PySem.W.findIn K (.ref C_NotUsable) "__setattr__" = some (some (.builtin "object.__setattr__")))
    (ga_NotUsable : PySem.W.findIn K (.ref C_NotUsable) "__getattribute__" = some (some (.builtin "BaseException.__getattribute__")))
    (gg_NotUsable : PySem.W.findIn K (.ref C_NotUsable) "__getattr__" = some none)
    (gc_NotUsable : PySem.W.findIn K (.ref C_NotUsable) "__class__" = some (some (.builtin "object.__class__")))
    (mo_NotUsable : PySem.W.mroIn K C_NotUsable (.type "object") = some true)
    (kC_NotUsable : PySem.W.keepIn K (.ref C_NotUsable) = true)
    (eC_NotUsable : PySem.W.subIn K (.ref C_NotUsable) (.type "BaseException") = some true)
    (hC_NotUsable : PySem.W.hasDictIn K C_NotUsable = true)
    (n_NotUsable_word : PySem.W.findIn K (.ref C_NotUsable) "word" = some none)
    (n_NotUsable_at : PySem.W.findIn K (.ref C_NotUsable) "at" = some none)
    (fi_NotUsable : PySem.W.findIn K (.ref C_NotUsable) "__init__" = some (some (.ref f_NotUsable)))
    (ft_NotUsable : PySem.W.typeIn K (.ref f_NotUsable) = some (.type "function"))
    (fl_NotUsable : K.lookup f_NotUsable = some ⟨ocI_NotUsable, odI_NotUsable, .func (PySem.W.fnOf "__init__" "NotUsable.__init__" (defArgs sI_NotUsable) (defBody sI_NotUsable) (defScope sI_NotUsable) .none kVI_NotUsable dcI_NotUsable pmI_NotUsable anI_NotUsable cdI_NotUsable ctI_NotUsable), slI_NotUsable⟩)
    (fc_NotUsable : PySem.W.codeIn K cdI_NotUsable "NotUsable.__init__" = true)
    (fk_NotUsable : PySem.W.keepIn K (.ref f_NotUsable) = true)
    (xL_Unfit : K.lookup C_Unfit = some (excClassObj nm_Unfit q_Unfit C_Unfit N_Unfit bs_Unfit bm_Unfit true sn_Unfit sub_Unfit ab_Unfit col_Unfit dd_Unfit m0_Unfit m1_Unfit m2_Unfit m3_Unfit m5_Unfit "ValueError.__new__"))
    (xM_Unfit : PySem.HandSPX.refsVE bm_Unfit = true)
    (sa_Unfit : PySem.W.findIn K (.ref C_Unfit) "__setattr__" = some (some (.builtin "object.__setattr__")))
    (ga_Unfit : PySem.W.findIn K (.ref C_Unfit) "__getattribute__" = some (some (.builtin "BaseException.__getattribute__")))
    (gg_Unfit : PySem.W.findIn K (.ref C_Unfit) "__getattr__" = some none)
    (gc_Unfit : PySem.W.findIn K (.ref C_Unfit) "__class__" = some (some (.builtin "object.__class__")))
    (mo_Unfit : PySem.W.mroIn K C_Unfit (.type "object") = some true)
    (kC_Unfit : PySem.W.keepIn K (.ref C_Unfit) = true)
    (eC_Unfit : PySem.W.subIn K (.ref C_Unfit) (.type "BaseException") = some true)
    (hC_Unfit : PySem.W.hasDictIn K C_Unfit = true)
    (n_Unfit_barring : PySem.W.findIn K (.ref C_Unfit) "barring" = some none)
    (fi_Unfit : PySem.W.findIn K (.ref C_Unfit) "__init__" = some (some (.ref f_Unfit)))
    (ft_Unfit : PySem.W.typeIn K (.ref f_Unfit) = some (.type "function"))
    (fl_Unfit : K.lookup f_Unfit = some ⟨ocI_Unfit, odI_Unfit, .func (PySem.W.fnOf "__init__" "Unfit.__init__" (defArgs sI_Unfit) (defBody sI_Unfit) (defScope sI_Unfit) .none kVI_Unfit dcI_Unfit pmI_Unfit anI_Unfit cdI_Unfit ctI_Unfit), slI_Unfit⟩)
    (fc_Unfit : PySem.W.codeIn K cdI_Unfit "Unfit.__init__" = true)
    (fk_Unfit : PySem.W.keepIn K (.ref f_Unfit) = true)
    (xL_InvalidEvent : K.lookup C_InvalidEvent = some (excClassObj nm_InvalidEvent q_InvalidEvent C_InvalidEvent N_InvalidEvent bs_InvalidEvent bm_InvalidEvent true sn_InvalidEvent sub_InvalidEvent ab_InvalidEvent col_InvalidEvent dd_InvalidEvent m0_InvalidEvent m1_InvalidEvent m2_InvalidEvent m3_InvalidEvent m5_InvalidEvent "ValueError.__new__"))
    (xM_InvalidEvent : PySem.HandSPX.refsVE bm_InvalidEvent = true)
    (sa_InvalidEvent : PySem.W.findIn K (.ref C_InvalidEvent) "__setattr__" = some (some (.builtin "object.__setattr__")))
    (ga_InvalidEvent : PySem.W.findIn K (.ref C_InvalidEvent) "__getattribute__" = some (some (.builtin "BaseException.__getattribute__")))
    (gg_InvalidEvent : PySem.W.findIn K (.ref C_InvalidEvent) "__getattr__" = some none)
    (gc_InvalidEvent : PySem.W.findIn K (.ref C_InvalidEvent) "__class__" = some (some (.builtin "object.__class__")))
    (mo_InvalidEvent : PySem.W.mroIn K C_InvalidEvent (.type "object") = some true)
    (kC_InvalidEvent : PySem.W.keepIn K (.ref C_InvalidEvent) = true)
    (eC_InvalidEvent : PySem.W.subIn K (.ref C_InvalidEvent) (.type "BaseException") = some true)
    (hC_InvalidEvent : PySem.W.hasDictIn K C_InvalidEvent = true)
    (n_InvalidEvent_event : PySem.W.findIn K (.ref C_InvalidEvent) "event" = some none)
    (n_InvalidEvent_reason : PySem.W.findIn K (.ref C_InvalidEvent) "reason" = some none)
    (fi_InvalidEvent : PySem.W.findIn K (.ref C_InvalidEvent) "__init__" = some (some (.ref f_InvalidEvent)))
    (ft_InvalidEvent : PySem.W.typeIn K (.ref f_InvalidEvent) = some (.type "function"))
    (fl_InvalidEvent : K.lookup f_InvalidEvent = some ⟨ocI_InvalidEvent, odI_InvalidEvent, .func (PySem.W.fnOf "__init__" "InvalidEvent.__init__" (defArgs sI_InvalidEvent) (defBody sI_InvalidEvent) (defScope sI_InvalidEvent) .none kVI_InvalidEvent dcI_InvalidEvent pmI_InvalidEvent anI_InvalidEvent cdI_InvalidEvent ctI_InvalidEvent), slI_InvalidEvent⟩)
    (fc_InvalidEvent : PySem.W.codeIn K cdI_InvalidEvent "InvalidEvent.__init__" = true)
    (fk_InvalidEvent : PySem.W.keepIn K (.ref f_InvalidEvent) = true)
    (xL_NothingToUndo : K.lookup C_NothingToUndo = some (excClassObj nm_NothingToUndo q_NothingToUndo C_NothingToUndo N_NothingToUndo bs_NothingToUndo bm_NothingToUndo true sn_NothingToUndo sub_NothingToUndo ab_NothingToUndo col_NothingToUndo dd_NothingToUndo m0_NothingToUndo m1_NothingToUndo m2_NothingToUndo m3_NothingToUndo m5_NothingToUndo "ValueError.__new__"))
    (xM_NothingToUndo : PySem.HandSPX.refsVE bm_NothingToUndo = true)
    (sa_NothingToUndo : PySem.W.findIn K (.ref C_NothingToUndo) "__setattr__" = some (some (.builtin "object.__setattr__")))
    (ga_NothingToUndo : PySem.W.findIn K (.ref C_NothingToUndo) "__getattribute__" = some (some (.builtin "BaseException.__getattribute__")))
    (gg_NothingToUndo : PySem.W.findIn K (.ref C_NothingToUndo) "__getattr__" = some none)
    (gc_NothingToUndo : PySem.W.findIn K (.ref C_NothingToUndo) "__class__" = some (some (.builtin "object.__class__")))
    (mo_NothingToUndo : PySem.W.mroIn K C_NothingToUndo (.type "object") = some true)
    (kC_NothingToUndo : PySem.W.keepIn K (.ref C_NothingToUndo) = true)
    (eC_NothingToUndo : PySem.W.subIn K (.ref C_NothingToUndo) (.type "BaseException") = some true)
    (hC_NothingToUndo : PySem.W.hasDictIn K C_NothingToUndo = true)
    (n_NothingToUndo_steps : PySem.W.findIn K (.ref C_NothingToUndo) "steps" = some none)
    (fi_NothingToUndo : PySem.W.findIn K (.ref C_NothingToUndo) "__init__" = some (some (.ref f_NothingToUndo)))
    (ft_NothingToUndo : PySem.W.typeIn K (.ref f_NothingToUndo) = some (.type "function"))
    (fl_NothingToUndo : K.lookup f_NothingToUndo = some ⟨ocI_NothingToUndo, odI_NothingToUndo, .func (PySem.W.fnOf "__init__" "NothingToUndo.__init__" (defArgs sI_NothingToUndo) (defBody sI_NothingToUndo) (defScope sI_NothingToUndo) .none kVI_NothingToUndo dcI_NothingToUndo pmI_NothingToUndo anI_NothingToUndo cdI_NothingToUndo ctI_NothingToUndo), slI_NothingToUndo⟩)
    (fc_NothingToUndo : PySem.W.codeIn K cdI_NothingToUndo "NothingToUndo.__init__" = true)
    (fk_NothingToUndo : PySem.W.keepIn K (.ref f_NothingToUndo) = true)
    (xL_InvalidSketch : K.lookup C_InvalidSketch = some (excClassObj nm_InvalidSketch q_InvalidSketch C_InvalidSketch N_InvalidSketch bs_InvalidSketch bm_InvalidSketch true sn_InvalidSketch sub_InvalidSketch ab_InvalidSketch col_InvalidSketch dd_InvalidSketch m0_InvalidSketch m1_InvalidSketch m2_InvalidSketch m3_InvalidSketch m5_InvalidSketch "ValueError.__new__"))
    (xM_InvalidSketch : PySem.HandSPX.refsVE bm_InvalidSketch = true)
    (sa_InvalidSketch : PySem.W.findIn K (.ref C_InvalidSketch) "__setattr__" = some (some (.builtin "object.__setattr__")))
    (ga_InvalidSketch : PySem.W.findIn K (.ref C_InvalidSketch) "__getattribute__" = some (some (.builtin "BaseException.__getattribute__")))
    (gg_InvalidSketch : PySem.W.findIn K (.ref C_InvalidSketch) "__getattr__" = some none)
    (gc_InvalidSketch : PySem.W.findIn K (.ref C_InvalidSketch) "__class__" = some (some (.builtin "object.__class__")))
    (mo_InvalidSketch : PySem.W.mroIn K C_InvalidSketch (.type "object") = some true)
    (kC_InvalidSketch : PySem.W.keepIn K (.ref C_InvalidSketch) = true)
    (eC_InvalidSketch : PySem.W.subIn K (.ref C_InvalidSketch) (.type "BaseException") = some true)
    (hC_InvalidSketch : PySem.W.hasDictIn K C_InvalidSketch = true)
    (n_InvalidSketch_word : PySem.W.findIn K (.ref C_InvalidSketch) "word" = some none)
    (n_InvalidSketch_at : PySem.W.findIn K (.ref C_InvalidSketch) "at" = some none)
    (fi_InvalidSketch : PySem.W.findIn K (.ref C_InvalidSketch) "__init__" = some (some (.ref f_InvalidSketch)))
    (ft_InvalidSketch : PySem.W.typeIn K (.ref f_InvalidSketch) = some (.type "function"))
    (fl_InvalidSketch : K.lookup f_InvalidSketch = some ⟨ocI_InvalidSketch, odI_InvalidSketch, .func (PySem.W.fnOf "__init__" "InvalidSketch.__init__" (defArgs sI_InvalidSketch) (defBody sI_InvalidSketch) (defScope sI_InvalidSketch) .none kVI_InvalidSketch dcI_InvalidSketch pmI_InvalidSketch anI_InvalidSketch cdI_InvalidSketch ctI_InvalidSketch), slI_InvalidSketch⟩)
    (fc_InvalidSketch : PySem.W.codeIn K cdI_InvalidSketch "InvalidSketch.__init__" = true)
    (fk_InvalidSketch : PySem.W.keepIn K (.ref f_InvalidSketch) = true)
    (xL_InvalidText : K.lookup C_InvalidText = some (excClassObj nm_InvalidText q_InvalidText C_InvalidText N_InvalidText bs_InvalidText bm_InvalidText true sn_InvalidText sub_InvalidText ab_InvalidText col_InvalidText dd_InvalidText m0_InvalidText m1_InvalidText m2_InvalidText m3_InvalidText m5_InvalidText "ValueError.__new__"))
    (xM_InvalidText : PySem.HandSPX.refsVE bm_InvalidText = true)
    (sa_InvalidText : PySem.W.findIn K (.ref C_InvalidText) "__setattr__" = some (some (.builtin "object.__setattr__")))
    (ga_InvalidText : PySem.W.findIn K (.ref C_InvalidText) "__getattribute__" = some (some (.builtin "BaseException.__getattribute__")))
    (gg_InvalidText : PySem.W.findIn K (.ref C_InvalidText) "__getattr__" = some none)
    (gc_InvalidText : PySem.W.findIn K (.ref C_InvalidText) "__class__" = some (some (.builtin "object.__class__")))
    (mo_InvalidText : PySem.W.mroIn K C_InvalidText (.type "object") = some true)
    (kC_InvalidText : PySem.W.keepIn K (.ref C_InvalidText) = true)
    (eC_InvalidText : PySem.W.subIn K (.ref C_InvalidText) (.type "BaseException") = some true)
    (hC_InvalidText : PySem.W.hasDictIn K C_InvalidText = true)
    (n_InvalidText_line : PySem.W.findIn K (.ref C_InvalidText) "line" = some none)
    (n_InvalidText_field : PySem.W.findIn K (.ref C_InvalidText) "field" = some none)
    (fi_InvalidText : PySem.W.findIn K (.ref C_InvalidText) "__init__" = some (some (.ref f_InvalidText)))
    (ft_InvalidText : PySem.W.typeIn K (.ref f_InvalidText) = some (.type "function"))
    (fl_InvalidText : K.lookup f_InvalidText = some ⟨ocI_InvalidText, odI_InvalidText, .func (PySem.W.fnOf "__init__" "InvalidText.__init__" (defArgs sI_InvalidText) (defBody sI_InvalidText) (defScope sI_InvalidText) .none kVI_InvalidText dcI_InvalidText pmI_InvalidText anI_InvalidText cdI_InvalidText ctI_InvalidText), slI_InvalidText⟩)
    (fc_InvalidText : PySem.W.codeIn K cdI_InvalidText "InvalidText.__init__" = true)
    (fk_InvalidText : PySem.W.keepIn K (.ref f_InvalidText) = true)
    (sC : PySem.W.subIn K (.ref C_NotUsable) (.ref C_NotUsable) = some true)
    (s_InvalidPaper_PaperError : PySem.W.subIn K (.ref C_InvalidPaper) (.ref C_PaperError) = some true)
    (d_InvalidPaper_PaperError : (Value.ref C_InvalidPaper == Value.ref C_PaperError) = false)
    (s_InvalidPaper_PlanError : PySem.W.subIn K (.ref C_InvalidPaper) (.ref C_PlanError) = some false)
    (d_InvalidPaper_PlanError : (Value.ref C_InvalidPaper == Value.ref C_PlanError) = false)
    (s_InvalidPaper_HangError : PySem.W.subIn K (.ref C_InvalidPaper) (.ref C_HangError) = some true)
    (d_InvalidPaper_HangError : (Value.ref C_InvalidPaper == Value.ref C_HangError) = false)
    (s_InvalidPaper_ValueError : PySem.W.subIn K (.ref C_InvalidPaper) (.type "ValueError") = some true)
    (s_InvalidPaper_TextError : PySem.W.subIn K (.ref C_InvalidPaper) (.ref C_TextError) = some false)
    (d_InvalidPaper_TextError : (Value.ref C_InvalidPaper == Value.ref C_TextError) = false)
    (s_InvalidSketch_PaperError : PySem.W.subIn K (.ref C_InvalidSketch) (.ref C_PaperError) = some false)
    (d_InvalidSketch_PaperError : (Value.ref C_InvalidSketch == Value.ref C_PaperError) = false)
    (s_InvalidSketch_PlanError : PySem.W.subIn K (.ref C_InvalidSketch) (.ref C_PlanError) = some false)
    (d_InvalidSketch_PlanError : (Value.ref C_InvalidSketch == Value.ref C_PlanError) = false)
    (s_InvalidSketch_TextError : PySem.W.subIn K (.ref C_InvalidSketch) (.ref C_TextError) = some true)
    (d_InvalidSketch_TextError : (Value.ref C_InvalidSketch == Value.ref C_TextError) = false)
    (s_InvalidSketch_HangError : PySem.W.subIn K (.ref C_InvalidSketch) (.ref C_HangError) = some true)
    (d_InvalidSketch_HangError : (Value.ref C_InvalidSketch == Value.ref C_HangError) = false)
    (s_InvalidSketch_InvalidText : PySem.W.subIn K (.ref C_InvalidSketch) (.ref C_InvalidText) = some false)
    (d_InvalidSketch_InvalidText : (Value.ref C_InvalidSketch == Value.ref C_InvalidText) = false)
    (s_Unfit_PlanError : PySem.W.subIn K (.ref C_Unfit) (.ref C_PlanError) = some true)
    (d_Unfit_PlanError : (Value.ref C_Unfit == Value.ref C_PlanError) = false)
    (s_Unfit_NotUsable : PySem.W.subIn K (.ref C_Unfit) (.ref C_NotUsable) = some false)
    (d_Unfit_NotUsable : (Value.ref C_Unfit == Value.ref C_NotUsable) = false)
    (s_Unfit_HangError : PySem.W.subIn K (.ref C_Unfit) (.ref C_HangError) = some true)
    (d_Unfit_HangError : (Value.ref C_Unfit == Value.ref C_HangError) = false)
    (s_Unfit_ValueError : PySem.W.subIn K (.ref C_Unfit) (.type "ValueError") = some true)
    (s_Unfit_PaperError : PySem.W.subIn K (.ref C_Unfit) (.ref C_PaperError) = some false)
    (d_Unfit_PaperError : (Value.ref C_Unfit == Value.ref C_PaperError) = false)
    (s_InvalidEvent_LiveError : PySem.W.subIn K (.ref C_InvalidEvent) (.ref C_LiveError) = some true)
    (d_InvalidEvent_LiveError : (Value.ref C_InvalidEvent == Value.ref C_LiveError) = false)
    (s_InvalidEvent_PlanError : PySem.W.subIn K (.ref C_InvalidEvent) (.ref C_PlanError) = some false)
    (d_InvalidEvent_PlanError : (Value.ref C_InvalidEvent == Value.ref C_PlanError) = false)
    (s_InvalidEvent_NothingToUndo : PySem.W.subIn K (.ref C_InvalidEvent) (.ref C_NothingToUndo) = some false)
    (d_InvalidEvent_NothingToUndo : (Value.ref C_InvalidEvent == Value.ref C_NothingToUndo) = false)
    (s_InvalidEvent_HangError : PySem.W.subIn K (.ref C_InvalidEvent) (.ref C_HangError) = some true)
    (d_InvalidEvent_HangError : (Value.ref C_InvalidEvent == Value.ref C_HangError) = false)
    (s_InvalidEvent_ValueError : PySem.W.subIn K (.ref C_InvalidEvent) (.type "ValueError") = some true)
    (s_InvalidEvent_PaperError : PySem.W.subIn K (.ref C_InvalidEvent) (.ref C_PaperError) = some false)
    (d_InvalidEvent_PaperError : (Value.ref C_InvalidEvent == Value.ref C_PaperError) = false)
    (s_NothingToUndo_LiveError : PySem.W.subIn K (.ref C_NothingToUndo) (.ref C_LiveError) = some true)
    (d_NothingToUndo_LiveError : (Value.ref C_NothingToUndo == Value.ref C_LiveError) = false)
    (s_NothingToUndo_InvalidEvent : PySem.W.subIn K (.ref C_NothingToUndo) (.ref C_InvalidEvent) = some false)
    (d_NothingToUndo_InvalidEvent : (Value.ref C_NothingToUndo == Value.ref C_InvalidEvent) = false)
    (s_NothingToUndo_HangError : PySem.W.subIn K (.ref C_NothingToUndo) (.ref C_HangError) = some true)
    (d_NothingToUndo_HangError : (Value.ref C_NothingToUndo == Value.ref C_HangError) = false)
    (s_NothingToUndo_ValueError : PySem.W.subIn K (.ref C_NothingToUndo) (.type "ValueError") = some true)
    (s_NothingToUndo_PaperError : PySem.W.subIn K (.ref C_NothingToUndo) (.ref C_PaperError) = some false)
    (d_NothingToUndo_PaperError : (Value.ref C_NothingToUndo == Value.ref C_PaperError) = false)
    (s_InvalidText_TextError : PySem.W.subIn K (.ref C_InvalidText) (.ref C_TextError) = some true)
    (d_InvalidText_TextError : (Value.ref C_InvalidText == Value.ref C_TextError) = false)
    (s_InvalidText_InvalidSketch : PySem.W.subIn K (.ref C_InvalidText) (.ref C_InvalidSketch) = some false)
    (d_InvalidText_InvalidSketch : (Value.ref C_InvalidText == Value.ref C_InvalidSketch) = false)
    (s_InvalidText_LiveError : PySem.W.subIn K (.ref C_InvalidText) (.ref C_LiveError) = some false)
    (d_InvalidText_LiveError : (Value.ref C_InvalidText == Value.ref C_LiveError) = false)
    (s_InvalidText_HangError : PySem.W.subIn K (.ref C_InvalidText) (.ref C_HangError) = some true)
    (d_InvalidText_HangError : (Value.ref C_InvalidText == Value.ref C_HangError) = false)
    (s_InvalidText_ValueError : PySem.W.subIn K (.ref C_InvalidText) (.type "ValueError") = some true)
    (s_InvalidText_PaperError : PySem.W.subIn K (.ref C_InvalidText) (.ref C_PaperError) = some false)
    (d_InvalidText_PaperError : (Value.ref C_InvalidText == Value.ref C_PaperError) = false)
    (s_NotUsable_PlanError : PySem.W.subIn K (.ref C_NotUsable) (.ref C_PlanError) = some true)
    (d_NotUsable_PlanError : (Value.ref C_NotUsable == Value.ref C_PlanError) = false)
    (s_NotUsable_HangError : PySem.W.subIn K (.ref C_NotUsable) (.ref C_HangError) = some true)
    (d_NotUsable_HangError : (Value.ref C_NotUsable == Value.ref C_HangError) = false)
    (s_NotUsable_ValueError : PySem.W.subIn K (.ref C_NotUsable) (.type "ValueError") = some true)
    (s_NotUsable_PaperError : PySem.W.subIn K (.ref C_NotUsable) (.ref C_PaperError) = some false)
    (d_NotUsable_PaperError : (Value.ref C_NotUsable == Value.ref C_PaperError) = false)
    (s_NotUsable_LiveError : PySem.W.subIn K (.ref C_NotUsable) (.ref C_LiveError) = some false)
    (d_NotUsable_LiveError : (Value.ref C_NotUsable == Value.ref C_LiveError) = false)
    (s_NotUsable_TextError : PySem.W.subIn K (.ref C_NotUsable) (.ref C_TextError) = some false)
    (d_NotUsable_TextError : (Value.ref C_NotUsable == Value.ref C_TextError) = false)
    (s_NotUsable_Unfit : PySem.W.subIn K (.ref C_NotUsable) (.ref C_Unfit) = some false)
    (d_NotUsable_Unfit : (Value.ref C_NotUsable == Value.ref C_Unfit) = false)
    {a_need : Addr} {od_need an_need : Option Addr} {sl_need : Array (Option Value)} {oc_need kV_need dc_need pm_need cd_need ct_need : Value}
    (A_need : PySem.W.nsIn K mainGlobals "need" = some (some (.ref a_need))) (L_need : K.lookup a_need = some ⟨oc_need, od_need, .func (PySem.W.fnOf "need" "need" (defArgs s_need) (defBody s_need) (defScope s_need) .none kV_need dc_need pm_need an_need cd_need ct_need), sl_need⟩) (C_need : PySem.W.codeIn K cd_need "need" = true) (K_need : PySem.W.keepIn K (.ref a_need) = true)
    {a_is_integer : Addr} {od_is_integer an_is_integer : Option Addr} {sl_is_integer : Array (Option Value)} {oc_is_integer kV_is_integer dc_is_integer pm_is_integer cd_is_integer ct_is_integer : Value}
    (A_is_integer : PySem.W.nsIn K mainGlobals "is_integer" = some (some (.ref a_is_integer))) (L_is_integer : K.lookup a_is_integer = some ⟨oc_is_integer, od_is_integer, .func (PySem.W.fnOf "is_integer" "is_integer" (defArgs s_is_integer) (defBody s_is_integer) (defScope s_is_integer) .none kV_is_integer dc_is_integer pm_is_integer an_is_integer cd_is_integer ct_is_integer), sl_is_integer⟩) (C_is_integer : PySem.W.codeIn K cd_is_integer "is_integer" = true) (K_is_integer : PySem.W.keepIn K (.ref a_is_integer) = true)
    {a_is_number : Addr} {od_is_number an_is_number : Option Addr} {sl_is_number : Array (Option Value)} {oc_is_number kV_is_number dc_is_number pm_is_number cd_is_number ct_is_number : Value}
    (A_is_number : PySem.W.nsIn K mainGlobals "is_number" = some (some (.ref a_is_number))) (L_is_number : K.lookup a_is_number = some ⟨oc_is_number, od_is_number, .func (PySem.W.fnOf "is_number" "is_number" (defArgs s_is_number) (defBody s_is_number) (defScope s_is_number) .none kV_is_number dc_is_number pm_is_number an_is_number cd_is_number ct_is_number), sl_is_number⟩) (C_is_number : PySem.W.codeIn K cd_is_number "is_number" = true) (K_is_number : PySem.W.keepIn K (.ref a_is_number) = true)
    {a_is_quotient : Addr} {od_is_quotient an_is_quotient : Option Addr} {sl_is_quotient : Array (Option Value)} {oc_is_quotient kV_is_quotient dc_is_quotient pm_is_quotient cd_is_quotient ct_is_quotient : Value}
    (A_is_quotient : PySem.W.nsIn K mainGlobals "is_quotient" = some (some (.ref a_is_quotient))) (L_is_quotient : K.lookup a_is_quotient = some ⟨oc_is_quotient, od_is_quotient, .func (PySem.W.fnOf "is_quotient" "is_quotient" (defArgs s_is_quotient) (defBody s_is_quotient) (defScope s_is_quotient) .none kV_is_quotient dc_is_quotient pm_is_quotient an_is_quotient cd_is_quotient ct_is_quotient), sl_is_quotient⟩) (C_is_quotient : PySem.W.codeIn K cd_is_quotient "is_quotient" = true) (K_is_quotient : PySem.W.keepIn K (.ref a_is_quotient) = true)
    {a_is_positive : Addr} {od_is_positive an_is_positive : Option Addr} {sl_is_positive : Array (Option Value)} {oc_is_positive kV_is_positive dc_is_positive pm_is_positive cd_is_positive ct_is_positive : Value}
    (A_is_positive : PySem.W.nsIn K mainGlobals "is_positive" = some (some (.ref a_is_positive))) (L_is_positive : K.lookup a_is_positive = some ⟨oc_is_positive, od_is_positive, .func (PySem.W.fnOf "is_positive" "is_positive" (defArgs s_is_positive) (defBody s_is_positive) (defScope s_is_positive) .none kV_is_positive dc_is_positive pm_is_positive an_is_positive cd_is_positive ct_is_positive), sl_is_positive⟩) (C_is_positive : PySem.W.codeIn K cd_is_positive "is_positive" = true) (K_is_positive : PySem.W.keepIn K (.ref a_is_positive) = true)
    {a_is_row : Addr} {od_is_row an_is_row : Option Addr} {sl_is_row : Array (Option Value)} {oc_is_row kV_is_row dc_is_row pm_is_row cd_is_row ct_is_row : Value}
    (A_is_row : PySem.W.nsIn K mainGlobals "is_row" = some (some (.ref a_is_row))) (L_is_row : K.lookup a_is_row = some ⟨oc_is_row, od_is_row, .func (PySem.W.fnOf "is_row" "is_row" (defArgs s_is_row) (defBody s_is_row) (defScope s_is_row) .none kV_is_row dc_is_row pm_is_row an_is_row cd_is_row ct_is_row), sl_is_row⟩) (C_is_row : PySem.W.codeIn K cd_is_row "is_row" = true) (K_is_row : PySem.W.keepIn K (.ref a_is_row) = true)
    {a_is_shape_row : Addr} {od_is_shape_row an_is_shape_row : Option Addr} {sl_is_shape_row : Array (Option Value)} {oc_is_shape_row kV_is_shape_row dc_is_shape_row pm_is_shape_row cd_is_shape_row ct_is_shape_row : Value}
    (A_is_shape_row : PySem.W.nsIn K mainGlobals "is_shape_row" = some (some (.ref a_is_shape_row))) (L_is_shape_row : K.lookup a_is_shape_row = some ⟨oc_is_shape_row, od_is_shape_row, .func (PySem.W.fnOf "is_shape_row" "is_shape_row" (defArgs s_is_shape_row) (defBody s_is_shape_row) (defScope s_is_shape_row) .none kV_is_shape_row dc_is_shape_row pm_is_shape_row an_is_shape_row cd_is_shape_row ct_is_shape_row), sl_is_shape_row⟩) (C_is_shape_row : PySem.W.codeIn K cd_is_shape_row "is_shape_row" = true) (K_is_shape_row : PySem.W.keepIn K (.ref a_is_shape_row) = true)
    {a_is_shapes : Addr} {od_is_shapes an_is_shapes : Option Addr} {sl_is_shapes : Array (Option Value)} {oc_is_shapes kV_is_shapes dc_is_shapes pm_is_shapes cd_is_shapes ct_is_shapes : Value}
    (A_is_shapes : PySem.W.nsIn K mainGlobals "is_shapes" = some (some (.ref a_is_shapes))) (L_is_shapes : K.lookup a_is_shapes = some ⟨oc_is_shapes, od_is_shapes, .func (PySem.W.fnOf "is_shapes" "is_shapes" (defArgs s_is_shapes) (defBody s_is_shapes) (defScope s_is_shapes) .none kV_is_shapes dc_is_shapes pm_is_shapes an_is_shapes cd_is_shapes ct_is_shapes), sl_is_shapes⟩) (C_is_shapes : PySem.W.codeIn K cd_is_shapes "is_shapes" = true) (K_is_shapes : PySem.W.keepIn K (.ref a_is_shapes) = true)
    {a_is_table : Addr} {od_is_table an_is_table : Option Addr} {sl_is_table : Array (Option Value)} {oc_is_table kV_is_table dc_is_table pm_is_table cd_is_table ct_is_table : Value}
    (A_is_table : PySem.W.nsIn K mainGlobals "is_table" = some (some (.ref a_is_table))) (L_is_table : K.lookup a_is_table = some ⟨oc_is_table, od_is_table, .func (PySem.W.fnOf "is_table" "is_table" (defArgs s_is_table) (defBody s_is_table) (defScope s_is_table) .none kV_is_table dc_is_table pm_is_table an_is_table cd_is_table ct_is_table), sl_is_table⟩) (C_is_table : PySem.W.codeIn K cd_is_table "is_table" = true) (K_is_table : PySem.W.keepIn K (.ref a_is_table) = true)
    {a_is_side : Addr} {od_is_side an_is_side : Option Addr} {sl_is_side : Array (Option Value)} {oc_is_side kV_is_side dc_is_side pm_is_side cd_is_side ct_is_side : Value}
    (A_is_side : PySem.W.nsIn K mainGlobals "is_side" = some (some (.ref a_is_side))) (L_is_side : K.lookup a_is_side = some ⟨oc_is_side, od_is_side, .func (PySem.W.fnOf "is_side" "is_side" (defArgs s_is_side) (defBody s_is_side) (defScope s_is_side) .none kV_is_side dc_is_side pm_is_side an_is_side cd_is_side ct_is_side), sl_is_side⟩) (C_is_side : PySem.W.codeIn K cd_is_side "is_side" = true) (K_is_side : PySem.W.keepIn K (.ref a_is_side) = true)
    {a_is_picture : Addr} {od_is_picture an_is_picture : Option Addr} {sl_is_picture : Array (Option Value)} {oc_is_picture kV_is_picture dc_is_picture pm_is_picture cd_is_picture ct_is_picture : Value}
    (A_is_picture : PySem.W.nsIn K mainGlobals "is_picture" = some (some (.ref a_is_picture))) (L_is_picture : K.lookup a_is_picture = some ⟨oc_is_picture, od_is_picture, .func (PySem.W.fnOf "is_picture" "is_picture" (defArgs s_is_picture) (defBody s_is_picture) (defScope s_is_picture) .none kV_is_picture dc_is_picture pm_is_picture an_is_picture cd_is_picture ct_is_picture), sl_is_picture⟩) (C_is_picture : PySem.W.codeIn K cd_is_picture "is_picture" = true) (K_is_picture : PySem.W.keepIn K (.ref a_is_picture) = true)
    {a_side_after : Addr} {od_side_after an_side_after : Option Addr} {sl_side_after : Array (Option Value)} {oc_side_after kV_side_after dc_side_after pm_side_after cd_side_after ct_side_after : Value}
    (A_side_after : PySem.W.nsIn K mainGlobals "side_after" = some (some (.ref a_side_after))) (L_side_after : K.lookup a_side_after = some ⟨oc_side_after, od_side_after, .func (PySem.W.fnOf "side_after" "side_after" (defArgs s_side_after) (defBody s_side_after) (defScope s_side_after) .none kV_side_after dc_side_after pm_side_after an_side_after cd_side_after ct_side_after), sl_side_after⟩) (C_side_after : PySem.W.codeIn K cd_side_after "side_after" = true) (K_side_after : PySem.W.keepIn K (.ref a_side_after) = true)
    {a_side_opposite : Addr} {od_side_opposite an_side_opposite : Option Addr} {sl_side_opposite : Array (Option Value)} {oc_side_opposite kV_side_opposite dc_side_opposite pm_side_opposite cd_side_opposite ct_side_opposite : Value}
    (A_side_opposite : PySem.W.nsIn K mainGlobals "side_opposite" = some (some (.ref a_side_opposite))) (L_side_opposite : K.lookup a_side_opposite = some ⟨oc_side_opposite, od_side_opposite, .func (PySem.W.fnOf "side_opposite" "side_opposite" (defArgs s_side_opposite) (defBody s_side_opposite) (defScope s_side_opposite) .none kV_side_opposite dc_side_opposite pm_side_opposite an_side_opposite cd_side_opposite ct_side_opposite), sl_side_opposite⟩) (C_side_opposite : PySem.W.codeIn K cd_side_opposite "side_opposite" = true) (K_side_opposite : PySem.W.keepIn K (.ref a_side_opposite) = true)
    {a_is_place_among : Addr} {od_is_place_among an_is_place_among : Option Addr} {sl_is_place_among : Array (Option Value)} {oc_is_place_among kV_is_place_among dc_is_place_among pm_is_place_among cd_is_place_among ct_is_place_among : Value}
    (A_is_place_among : PySem.W.nsIn K mainGlobals "is_place_among" = some (some (.ref a_is_place_among))) (L_is_place_among : K.lookup a_is_place_among = some ⟨oc_is_place_among, od_is_place_among, .func (PySem.W.fnOf "is_place_among" "is_place_among" (defArgs s_is_place_among) (defBody s_is_place_among) (defScope s_is_place_among) .none kV_is_place_among dc_is_place_among pm_is_place_among an_is_place_among cd_is_place_among ct_is_place_among), sl_is_place_among⟩) (C_is_place_among : PySem.W.codeIn K cd_is_place_among "is_place_among" = true) (K_is_place_among : PySem.W.keepIn K (.ref a_is_place_among) = true)
    {a_is_place : Addr} {od_is_place an_is_place : Option Addr} {sl_is_place : Array (Option Value)} {oc_is_place kV_is_place dc_is_place pm_is_place cd_is_place ct_is_place : Value}
    (A_is_place : PySem.W.nsIn K mainGlobals "is_place" = some (some (.ref a_is_place))) (L_is_place : K.lookup a_is_place = some ⟨oc_is_place, od_is_place, .func (PySem.W.fnOf "is_place" "is_place" (defArgs s_is_place) (defBody s_is_place) (defScope s_is_place) .none kV_is_place dc_is_place pm_is_place an_is_place cd_is_place ct_is_place), sl_is_place⟩) (C_is_place : PySem.W.codeIn K cd_is_place "is_place" = true) (K_is_place : PySem.W.keepIn K (.ref a_is_place) = true)
    {a_decimal : Addr} {od_decimal an_decimal : Option Addr} {sl_decimal : Array (Option Value)} {oc_decimal kV_decimal dc_decimal pm_decimal cd_decimal ct_decimal : Value}
    (A_decimal : PySem.W.nsIn K mainGlobals "decimal" = some (some (.ref a_decimal))) (L_decimal : K.lookup a_decimal = some ⟨oc_decimal, od_decimal, .func (PySem.W.fnOf "decimal" "decimal" (defArgs s_decimal) (defBody s_decimal) (defScope s_decimal) .none kV_decimal dc_decimal pm_decimal an_decimal cd_decimal ct_decimal), sl_decimal⟩) (C_decimal : PySem.W.codeIn K cd_decimal "decimal" = true) (K_decimal : PySem.W.keepIn K (.ref a_decimal) = true)
    {a_place_letter : Addr} {od_place_letter an_place_letter : Option Addr} {sl_place_letter : Array (Option Value)} {oc_place_letter kV_place_letter dc_place_letter pm_place_letter cd_place_letter ct_place_letter : Value}
    (A_place_letter : PySem.W.nsIn K mainGlobals "place_letter" = some (some (.ref a_place_letter))) (L_place_letter : K.lookup a_place_letter = some ⟨oc_place_letter, od_place_letter, .func (PySem.W.fnOf "place_letter" "place_letter" (defArgs s_place_letter) (defBody s_place_letter) (defScope s_place_letter) .none kV_place_letter dc_place_letter pm_place_letter an_place_letter cd_place_letter ct_place_letter), sl_place_letter⟩) (C_place_letter : PySem.W.codeIn K cd_place_letter "place_letter" = true) (K_place_letter : PySem.W.keepIn K (.ref a_place_letter) = true)
    {a_reduced : Addr} {od_reduced an_reduced : Option Addr} {sl_reduced : Array (Option Value)} {oc_reduced kV_reduced dc_reduced pm_reduced cd_reduced ct_reduced : Value}
    (A_reduced : PySem.W.nsIn K mainGlobals "reduced" = some (some (.ref a_reduced))) (L_reduced : K.lookup a_reduced = some ⟨oc_reduced, od_reduced, .func (PySem.W.fnOf "reduced" "reduced" (defArgs s_reduced) (defBody s_reduced) (defScope s_reduced) .none kV_reduced dc_reduced pm_reduced an_reduced cd_reduced ct_reduced), sl_reduced⟩) (C_reduced : PySem.W.codeIn K cd_reduced "reduced" = true) (K_reduced : PySem.W.keepIn K (.ref a_reduced) = true)
    {a_sum_of_two : Addr} {od_sum_of_two an_sum_of_two : Option Addr} {sl_sum_of_two : Array (Option Value)} {oc_sum_of_two kV_sum_of_two dc_sum_of_two pm_sum_of_two cd_sum_of_two ct_sum_of_two : Value}
    (A_sum_of_two : PySem.W.nsIn K mainGlobals "sum_of_two" = some (some (.ref a_sum_of_two))) (L_sum_of_two : K.lookup a_sum_of_two = some ⟨oc_sum_of_two, od_sum_of_two, .func (PySem.W.fnOf "sum_of_two" "sum_of_two" (defArgs s_sum_of_two) (defBody s_sum_of_two) (defScope s_sum_of_two) .none kV_sum_of_two dc_sum_of_two pm_sum_of_two an_sum_of_two cd_sum_of_two ct_sum_of_two), sl_sum_of_two⟩) (C_sum_of_two : PySem.W.codeIn K cd_sum_of_two "sum_of_two" = true) (K_sum_of_two : PySem.W.keepIn K (.ref a_sum_of_two) = true)
    {a_product_of_two : Addr} {od_product_of_two an_product_of_two : Option Addr} {sl_product_of_two : Array (Option Value)} {oc_product_of_two kV_product_of_two dc_product_of_two pm_product_of_two cd_product_of_two ct_product_of_two : Value}
    (A_product_of_two : PySem.W.nsIn K mainGlobals "product_of_two" = some (some (.ref a_product_of_two))) (L_product_of_two : K.lookup a_product_of_two = some ⟨oc_product_of_two, od_product_of_two, .func (PySem.W.fnOf "product_of_two" "product_of_two" (defArgs s_product_of_two) (defBody s_product_of_two) (defScope s_product_of_two) .none kV_product_of_two dc_product_of_two pm_product_of_two an_product_of_two cd_product_of_two ct_product_of_two), sl_product_of_two⟩) (C_product_of_two : PySem.W.codeIn K cd_product_of_two "product_of_two" = true) (K_product_of_two : PySem.W.keepIn K (.ref a_product_of_two) = true)
    {a_difference_of_two : Addr} {od_difference_of_two an_difference_of_two : Option Addr} {sl_difference_of_two : Array (Option Value)} {oc_difference_of_two kV_difference_of_two dc_difference_of_two pm_difference_of_two cd_difference_of_two ct_difference_of_two : Value}
    (A_difference_of_two : PySem.W.nsIn K mainGlobals "difference_of_two" = some (some (.ref a_difference_of_two))) (L_difference_of_two : K.lookup a_difference_of_two = some ⟨oc_difference_of_two, od_difference_of_two, .func (PySem.W.fnOf "difference_of_two" "difference_of_two" (defArgs s_difference_of_two) (defBody s_difference_of_two) (defScope s_difference_of_two) .none kV_difference_of_two dc_difference_of_two pm_difference_of_two an_difference_of_two cd_difference_of_two ct_difference_of_two), sl_difference_of_two⟩) (C_difference_of_two : PySem.W.codeIn K cd_difference_of_two "difference_of_two" = true) (K_difference_of_two : PySem.W.keepIn K (.ref a_difference_of_two) = true)
    {a_ratio_of_two : Addr} {od_ratio_of_two an_ratio_of_two : Option Addr} {sl_ratio_of_two : Array (Option Value)} {oc_ratio_of_two kV_ratio_of_two dc_ratio_of_two pm_ratio_of_two cd_ratio_of_two ct_ratio_of_two : Value}
    (A_ratio_of_two : PySem.W.nsIn K mainGlobals "ratio_of_two" = some (some (.ref a_ratio_of_two))) (L_ratio_of_two : K.lookup a_ratio_of_two = some ⟨oc_ratio_of_two, od_ratio_of_two, .func (PySem.W.fnOf "ratio_of_two" "ratio_of_two" (defArgs s_ratio_of_two) (defBody s_ratio_of_two) (defScope s_ratio_of_two) .none kV_ratio_of_two dc_ratio_of_two pm_ratio_of_two an_ratio_of_two cd_ratio_of_two ct_ratio_of_two), sl_ratio_of_two⟩) (C_ratio_of_two : PySem.W.codeIn K cd_ratio_of_two "ratio_of_two" = true) (K_ratio_of_two : PySem.W.keepIn K (.ref a_ratio_of_two) = true)
    {a_lies_below : Addr} {od_lies_below an_lies_below : Option Addr} {sl_lies_below : Array (Option Value)} {oc_lies_below kV_lies_below dc_lies_below pm_lies_below cd_lies_below ct_lies_below : Value}
    (A_lies_below : PySem.W.nsIn K mainGlobals "lies_below" = some (some (.ref a_lies_below))) (L_lies_below : K.lookup a_lies_below = some ⟨oc_lies_below, od_lies_below, .func (PySem.W.fnOf "lies_below" "lies_below" (defArgs s_lies_below) (defBody s_lies_below) (defScope s_lies_below) .none kV_lies_below dc_lies_below pm_lies_below an_lies_below cd_lies_below ct_lies_below), sl_lies_below⟩) (C_lies_below : PySem.W.codeIn K cd_lies_below "lies_below" = true) (K_lies_below : PySem.W.keepIn K (.ref a_lies_below) = true)
    {a_need_two : Addr} {od_need_two an_need_two : Option Addr} {sl_need_two : Array (Option Value)} {oc_need_two kV_need_two dc_need_two pm_need_two cd_need_two ct_need_two : Value}
    (A_need_two : PySem.W.nsIn K mainGlobals "need_two" = some (some (.ref a_need_two))) (L_need_two : K.lookup a_need_two = some ⟨oc_need_two, od_need_two, .func (PySem.W.fnOf "need_two" "need_two" (defArgs s_need_two) (defBody s_need_two) (defScope s_need_two) .none kV_need_two dc_need_two pm_need_two an_need_two cd_need_two ct_need_two), sl_need_two⟩) (C_need_two : PySem.W.codeIn K cd_need_two "need_two" = true) (K_need_two : PySem.W.keepIn K (.ref a_need_two) = true)
    {a_plus : Addr} {od_plus an_plus : Option Addr} {sl_plus : Array (Option Value)} {oc_plus kV_plus dc_plus pm_plus cd_plus ct_plus : Value}
    (A_plus : PySem.W.nsIn K mainGlobals "plus" = some (some (.ref a_plus))) (L_plus : K.lookup a_plus = some ⟨oc_plus, od_plus, .func (PySem.W.fnOf "plus" "plus" (defArgs s_plus) (defBody s_plus) (defScope s_plus) .none kV_plus dc_plus pm_plus an_plus cd_plus ct_plus), sl_plus⟩) (C_plus : PySem.W.codeIn K cd_plus "plus" = true) (K_plus : PySem.W.keepIn K (.ref a_plus) = true)
    {a_minus : Addr} {od_minus an_minus : Option Addr} {sl_minus : Array (Option Value)} {oc_minus kV_minus dc_minus pm_minus cd_minus ct_minus : Value}
    (A_minus : PySem.W.nsIn K mainGlobals "minus" = some (some (.ref a_minus))) (L_minus : K.lookup a_minus = some ⟨oc_minus, od_minus, .func (PySem.W.fnOf "minus" "minus" (defArgs s_minus) (defBody s_minus) (defScope s_minus) .none kV_minus dc_minus pm_minus an_minus cd_minus ct_minus), sl_minus⟩) (C_minus : PySem.W.codeIn K cd_minus "minus" = true) (K_minus : PySem.W.keepIn K (.ref a_minus) = true)
    {a_times : Addr} {od_times an_times : Option Addr} {sl_times : Array (Option Value)} {oc_times kV_times dc_times pm_times cd_times ct_times : Value}
    (A_times : PySem.W.nsIn K mainGlobals "times" = some (some (.ref a_times))) (L_times : K.lookup a_times = some ⟨oc_times, od_times, .func (PySem.W.fnOf "times" "times" (defArgs s_times) (defBody s_times) (defScope s_times) .none kV_times dc_times pm_times an_times cd_times ct_times), sl_times⟩) (C_times : PySem.W.codeIn K cd_times "times" = true) (K_times : PySem.W.keepIn K (.ref a_times) = true)
    {a_over : Addr} {od_over an_over : Option Addr} {sl_over : Array (Option Value)} {oc_over kV_over dc_over pm_over cd_over ct_over : Value}
    (A_over : PySem.W.nsIn K mainGlobals "over" = some (some (.ref a_over))) (L_over : K.lookup a_over = some ⟨oc_over, od_over, .func (PySem.W.fnOf "over" "over" (defArgs s_over) (defBody s_over) (defScope s_over) .none kV_over dc_over pm_over an_over cd_over ct_over), sl_over⟩) (C_over : PySem.W.codeIn K cd_over "over" = true) (K_over : PySem.W.keepIn K (.ref a_over) = true)
    {a_is_less : Addr} {od_is_less an_is_less : Option Addr} {sl_is_less : Array (Option Value)} {oc_is_less kV_is_less dc_is_less pm_is_less cd_is_less ct_is_less : Value}
    (A_is_less : PySem.W.nsIn K mainGlobals "is_less" = some (some (.ref a_is_less))) (L_is_less : K.lookup a_is_less = some ⟨oc_is_less, od_is_less, .func (PySem.W.fnOf "is_less" "is_less" (defArgs s_is_less) (defBody s_is_less) (defScope s_is_less) .none kV_is_less dc_is_less pm_is_less an_is_less cd_is_less ct_is_less), sl_is_less⟩) (C_is_less : PySem.W.codeIn K cd_is_less "is_less" = true) (K_is_less : PySem.W.keepIn K (.ref a_is_less) = true)
    {a_l_mixed : Addr} {od_l_mixed an_l_mixed : Option Addr} {sl_l_mixed : Array (Option Value)} {oc_l_mixed kV_l_mixed dc_l_mixed pm_l_mixed cd_l_mixed ct_l_mixed : Value}
    (A_l_mixed : PySem.W.nsIn K mainGlobals "_law_mixed" = some (some (.ref a_l_mixed))) (L_l_mixed : K.lookup a_l_mixed = some ⟨oc_l_mixed, od_l_mixed, .func (PySem.W.fnOf "_law_mixed" "_law_mixed" (defArgs s_l_mixed) (defBody s_l_mixed) (defScope s_l_mixed) .none kV_l_mixed dc_l_mixed pm_l_mixed an_l_mixed cd_l_mixed ct_l_mixed), sl_l_mixed⟩) (C_l_mixed : PySem.W.codeIn K cd_l_mixed "_law_mixed" = true) (K_l_mixed : PySem.W.keepIn K (.ref a_l_mixed) = true)
    {a_l_pool : Addr} {od_l_pool an_l_pool : Option Addr} {sl_l_pool : Array (Option Value)} {oc_l_pool kV_l_pool dc_l_pool pm_l_pool cd_l_pool ct_l_pool : Value}
    (A_l_pool : PySem.W.nsIn K mainGlobals "_law_pool" = some (some (.ref a_l_pool))) (L_l_pool : K.lookup a_l_pool = some ⟨oc_l_pool, od_l_pool, .func (PySem.W.fnOf "_law_pool" "_law_pool" (defArgs s_l_pool) (defBody s_l_pool) (defScope s_l_pool) .none kV_l_pool dc_l_pool pm_l_pool an_l_pool cd_l_pool ct_l_pool), sl_l_pool⟩) (C_l_pool : PySem.W.codeIn K cd_l_pool "_law_pool" = true) (K_l_pool : PySem.W.keepIn K (.ref a_l_pool) = true)
    {a_l_take : Addr} {od_l_take an_l_take : Option Addr} {sl_l_take : Array (Option Value)} {oc_l_take kV_l_take dc_l_take pm_l_take cd_l_take ct_l_take : Value}
    (A_l_take : PySem.W.nsIn K mainGlobals "_law_take" = some (some (.ref a_l_take))) (L_l_take : K.lookup a_l_take = some ⟨oc_l_take, od_l_take, .func (PySem.W.fnOf "_law_take" "_law_take" (defArgs s_l_take) (defBody s_l_take) (defScope s_l_take) .none kV_l_take dc_l_take pm_l_take an_l_take cd_l_take ct_l_take), sl_l_take⟩) (C_l_take : PySem.W.codeIn K cd_l_take "_law_take" = true) (K_l_take : PySem.W.keepIn K (.ref a_l_take) = true)
    {a_l_whole : Addr} {od_l_whole an_l_whole : Option Addr} {sl_l_whole : Array (Option Value)} {oc_l_whole kV_l_whole dc_l_whole pm_l_whole cd_l_whole ct_l_whole : Value}
    (A_l_whole : PySem.W.nsIn K mainGlobals "_law_whole" = some (some (.ref a_l_whole))) (L_l_whole : K.lookup a_l_whole = some ⟨oc_l_whole, od_l_whole, .func (PySem.W.fnOf "_law_whole" "_law_whole" (defArgs s_l_whole) (defBody s_l_whole) (defScope s_l_whole) .none kV_l_whole dc_l_whole pm_l_whole an_l_whole cd_l_whole ct_l_whole), sl_l_whole⟩) (C_l_whole : PySem.W.codeIn K cd_l_whole "_law_whole" = true) (K_l_whole : PySem.W.keepIn K (.ref a_l_whole) = true)
    {a_l_common : Addr} {od_l_common an_l_common : Option Addr} {sl_l_common : Array (Option Value)} {oc_l_common kV_l_common dc_l_common pm_l_common cd_l_common ct_l_common : Value}
    (A_l_common : PySem.W.nsIn K mainGlobals "_law_common" = some (some (.ref a_l_common))) (L_l_common : K.lookup a_l_common = some ⟨oc_l_common, od_l_common, .func (PySem.W.fnOf "_law_common" "_law_common" (defArgs s_l_common) (defBody s_l_common) (defScope s_l_common) .none kV_l_common dc_l_common pm_l_common an_l_common cd_l_common ct_l_common), sl_l_common⟩) (C_l_common : PySem.W.codeIn K cd_l_common "_law_common" = true) (K_l_common : PySem.W.keepIn K (.ref a_l_common) = true)
    {a_l_low : Addr} {od_l_low an_l_low : Option Addr} {sl_l_low : Array (Option Value)} {oc_l_low kV_l_low dc_l_low pm_l_low cd_l_low ct_l_low : Value}
    (A_l_low : PySem.W.nsIn K mainGlobals "_law_low" = some (some (.ref a_l_low))) (L_l_low : K.lookup a_l_low = some ⟨oc_l_low, od_l_low, .func (PySem.W.fnOf "_law_low" "_law_low" (defArgs s_l_low) (defBody s_l_low) (defScope s_l_low) .none kV_l_low dc_l_low pm_l_low an_l_low cd_l_low ct_l_low), sl_l_low⟩) (C_l_low : PySem.W.codeIn K cd_l_low "_law_low" = true) (K_l_low : PySem.W.keepIn K (.ref a_l_low) = true)
    {a_l_quotient : Addr} {od_l_quotient an_l_quotient : Option Addr} {sl_l_quotient : Array (Option Value)} {oc_l_quotient kV_l_quotient dc_l_quotient pm_l_quotient cd_l_quotient ct_l_quotient : Value}
    (A_l_quotient : PySem.W.nsIn K mainGlobals "_law_quotient" = some (some (.ref a_l_quotient))) (L_l_quotient : K.lookup a_l_quotient = some ⟨oc_l_quotient, od_l_quotient, .func (PySem.W.fnOf "_law_quotient" "_law_quotient" (defArgs s_l_quotient) (defBody s_l_quotient) (defScope s_l_quotient) .none kV_l_quotient dc_l_quotient pm_l_quotient an_l_quotient cd_l_quotient ct_l_quotient), sl_l_quotient⟩) (C_l_quotient : PySem.W.codeIn K cd_l_quotient "_law_quotient" = true) (K_l_quotient : PySem.W.keepIn K (.ref a_l_quotient) = true)
    {a_l_small : Addr} {od_l_small an_l_small : Option Addr} {sl_l_small : Array (Option Value)} {oc_l_small kV_l_small dc_l_small pm_l_small cd_l_small ct_l_small : Value}
    (A_l_small : PySem.W.nsIn K mainGlobals "_law_small" = some (some (.ref a_l_small))) (L_l_small : K.lookup a_l_small = some ⟨oc_l_small, od_l_small, .func (PySem.W.fnOf "_law_small" "_law_small" (defArgs s_l_small) (defBody s_l_small) (defScope s_l_small) .none kV_l_small dc_l_small pm_l_small an_l_small cd_l_small ct_l_small), sl_l_small⟩) (C_l_small : PySem.W.codeIn K cd_l_small "_law_small" = true) (K_l_small : PySem.W.keepIn K (.ref a_l_small) = true)
    {a_l_great : Addr} {od_l_great an_l_great : Option Addr} {sl_l_great : Array (Option Value)} {oc_l_great kV_l_great dc_l_great pm_l_great cd_l_great ct_l_great : Value}
    (A_l_great : PySem.W.nsIn K mainGlobals "_law_great" = some (some (.ref a_l_great))) (L_l_great : K.lookup a_l_great = some ⟨oc_l_great, od_l_great, .func (PySem.W.fnOf "_law_great" "_law_great" (defArgs s_l_great) (defBody s_l_great) (defScope s_l_great) .none kV_l_great dc_l_great pm_l_great an_l_great cd_l_great ct_l_great), sl_l_great⟩) (C_l_great : PySem.W.codeIn K cd_l_great "_law_great" = true) (K_l_great : PySem.W.keepIn K (.ref a_l_great) = true)
    {a_l_value : Addr} {od_l_value an_l_value : Option Addr} {sl_l_value : Array (Option Value)} {oc_l_value kV_l_value dc_l_value pm_l_value cd_l_value ct_l_value : Value}
    (A_l_value : PySem.W.nsIn K mainGlobals "_law_value" = some (some (.ref a_l_value))) (L_l_value : K.lookup a_l_value = some ⟨oc_l_value, od_l_value, .func (PySem.W.fnOf "_law_value" "_law_value" (defArgs s_l_value) (defBody s_l_value) (defScope s_l_value) .none kV_l_value dc_l_value pm_l_value an_l_value cd_l_value ct_l_value), sl_l_value⟩) (C_l_value : PySem.W.codeIn K cd_l_value "_law_value" = true) (K_l_value : PySem.W.keepIn K (.ref a_l_value) = true)
    {a_l_like : Addr} {od_l_like an_l_like : Option Addr} {sl_l_like : Array (Option Value)} {oc_l_like kV_l_like dc_l_like pm_l_like cd_l_like ct_l_like : Value}
    (A_l_like : PySem.W.nsIn K mainGlobals "_law_like" = some (some (.ref a_l_like))) (L_l_like : K.lookup a_l_like = some ⟨oc_l_like, od_l_like, .func (PySem.W.fnOf "_law_like" "_law_like" (defArgs s_l_like) (defBody s_l_like) (defScope s_l_like) .none kV_l_like dc_l_like pm_l_like an_l_like cd_l_like ct_l_like), sl_l_like⟩) (C_l_like : PySem.W.codeIn K cd_l_like "_law_like" = true) (K_l_like : PySem.W.keepIn K (.ref a_l_like) = true)
    {a_l_kin : Addr} {od_l_kin an_l_kin : Option Addr} {sl_l_kin : Array (Option Value)} {oc_l_kin kV_l_kin dc_l_kin pm_l_kin cd_l_kin ct_l_kin : Value}
    (A_l_kin : PySem.W.nsIn K mainGlobals "_law_kin" = some (some (.ref a_l_kin))) (L_l_kin : K.lookup a_l_kin = some ⟨oc_l_kin, od_l_kin, .func (PySem.W.fnOf "_law_kin" "_law_kin" (defArgs s_l_kin) (defBody s_l_kin) (defScope s_l_kin) .none kV_l_kin dc_l_kin pm_l_kin an_l_kin cd_l_kin ct_l_kin), sl_l_kin⟩) (C_l_kin : PySem.W.codeIn K cd_l_kin "_law_kin" = true) (K_l_kin : PySem.W.keepIn K (.ref a_l_kin) = true)
    {a_l_two : Addr} {od_l_two an_l_two : Option Addr} {sl_l_two : Array (Option Value)} {oc_l_two kV_l_two dc_l_two pm_l_two cd_l_two ct_l_two : Value}
    (A_l_two : PySem.W.nsIn K mainGlobals "_law_two" = some (some (.ref a_l_two))) (L_l_two : K.lookup a_l_two = some ⟨oc_l_two, od_l_two, .func (PySem.W.fnOf "_law_two" "_law_two" (defArgs s_l_two) (defBody s_l_two) (defScope s_l_two) .none kV_l_two dc_l_two pm_l_two an_l_two cd_l_two ct_l_two), sl_l_two⟩) (C_l_two : PySem.W.codeIn K cd_l_two "_law_two" = true) (K_l_two : PySem.W.keepIn K (.ref a_l_two) = true)
    {a_l_single : Addr} {od_l_single an_l_single : Option Addr} {sl_l_single : Array (Option Value)} {oc_l_single kV_l_single dc_l_single pm_l_single cd_l_single ct_l_single : Value}
    (A_l_single : PySem.W.nsIn K mainGlobals "_law_single" = some (some (.ref a_l_single))) (L_l_single : K.lookup a_l_single = some ⟨oc_l_single, od_l_single, .func (PySem.W.fnOf "_law_single" "_law_single" (defArgs s_l_single) (defBody s_l_single) (defScope s_l_single) .none kV_l_single dc_l_single pm_l_single an_l_single cd_l_single ct_l_single), sl_l_single⟩) (C_l_single : PySem.W.codeIn K cd_l_single "_law_single" = true) (K_l_single : PySem.W.keepIn K (.ref a_l_single) = true)
    {a_l_all_of : Addr} {od_l_all_of an_l_all_of : Option Addr} {sl_l_all_of : Array (Option Value)} {oc_l_all_of kV_l_all_of dc_l_all_of pm_l_all_of cd_l_all_of ct_l_all_of : Value}
    (A_l_all_of : PySem.W.nsIn K mainGlobals "_law_all_of" = some (some (.ref a_l_all_of))) (L_l_all_of : K.lookup a_l_all_of = some ⟨oc_l_all_of, od_l_all_of, .func (PySem.W.fnOf "_law_all_of" "_law_all_of" (defArgs s_l_all_of) (defBody s_l_all_of) (defScope s_l_all_of) .none kV_l_all_of dc_l_all_of pm_l_all_of an_l_all_of cd_l_all_of ct_l_all_of), sl_l_all_of⟩) (C_l_all_of : PySem.W.codeIn K cd_l_all_of "_law_all_of" = true) (K_l_all_of : PySem.W.keepIn K (.ref a_l_all_of) = true)
    {a_l_reckoned : Addr} {od_l_reckoned an_l_reckoned : Option Addr} {sl_l_reckoned : Array (Option Value)} {oc_l_reckoned kV_l_reckoned dc_l_reckoned pm_l_reckoned cd_l_reckoned ct_l_reckoned : Value}
    (A_l_reckoned : PySem.W.nsIn K mainGlobals "_law_reckoned" = some (some (.ref a_l_reckoned))) (L_l_reckoned : K.lookup a_l_reckoned = some ⟨oc_l_reckoned, od_l_reckoned, .func (PySem.W.fnOf "_law_reckoned" "_law_reckoned" (defArgs s_l_reckoned) (defBody s_l_reckoned) (defScope s_l_reckoned) .none kV_l_reckoned dc_l_reckoned pm_l_reckoned an_l_reckoned cd_l_reckoned ct_l_reckoned), sl_l_reckoned⟩) (C_l_reckoned : PySem.W.codeIn K cd_l_reckoned "_law_reckoned" = true) (K_l_reckoned : PySem.W.keepIn K (.ref a_l_reckoned) = true)
    {a_l_pair : Addr} {od_l_pair an_l_pair : Option Addr} {sl_l_pair : Array (Option Value)} {oc_l_pair kV_l_pair dc_l_pair pm_l_pair cd_l_pair ct_l_pair : Value}
    (A_l_pair : PySem.W.nsIn K mainGlobals "_law_pair" = some (some (.ref a_l_pair))) (L_l_pair : K.lookup a_l_pair = some ⟨oc_l_pair, od_l_pair, .func (PySem.W.fnOf "_law_pair" "_law_pair" (defArgs s_l_pair) (defBody s_l_pair) (defScope s_l_pair) .none kV_l_pair dc_l_pair pm_l_pair an_l_pair cd_l_pair ct_l_pair), sl_l_pair⟩) (C_l_pair : PySem.W.codeIn K cd_l_pair "_law_pair" = true) (K_l_pair : PySem.W.keepIn K (.ref a_l_pair) = true)
    {a_l_alone : Addr} {od_l_alone an_l_alone : Option Addr} {sl_l_alone : Array (Option Value)} {oc_l_alone kV_l_alone dc_l_alone pm_l_alone cd_l_alone ct_l_alone : Value}
    (A_l_alone : PySem.W.nsIn K mainGlobals "_law_alone" = some (some (.ref a_l_alone))) (L_l_alone : K.lookup a_l_alone = some ⟨oc_l_alone, od_l_alone, .func (PySem.W.fnOf "_law_alone" "_law_alone" (defArgs s_l_alone) (defBody s_l_alone) (defScope s_l_alone) .none kV_l_alone dc_l_alone pm_l_alone an_l_alone cd_l_alone ct_l_alone), sl_l_alone⟩) (C_l_alone : PySem.W.codeIn K cd_l_alone "_law_alone" = true) (K_l_alone : PySem.W.keepIn K (.ref a_l_alone) = true)
    {a_l_papers : Addr} {od_l_papers an_l_papers : Option Addr} {sl_l_papers : Array (Option Value)} {oc_l_papers kV_l_papers dc_l_papers pm_l_papers cd_l_papers ct_l_papers : Value}
    (A_l_papers : PySem.W.nsIn K mainGlobals "_law_papers" = some (some (.ref a_l_papers))) (L_l_papers : K.lookup a_l_papers = some ⟨oc_l_papers, od_l_papers, .func (PySem.W.fnOf "_law_papers" "_law_papers" (defArgs s_l_papers) (defBody s_l_papers) (defScope s_l_papers) .none kV_l_papers dc_l_papers pm_l_papers an_l_papers cd_l_papers ct_l_papers), sl_l_papers⟩) (C_l_papers : PySem.W.codeIn K cd_l_papers "_law_papers" = true) (K_l_papers : PySem.W.keepIn K (.ref a_l_papers) = true)
    {a_l_errors : Addr} {od_l_errors an_l_errors : Option Addr} {sl_l_errors : Array (Option Value)} {oc_l_errors kV_l_errors dc_l_errors pm_l_errors cd_l_errors ct_l_errors : Value}
    (A_l_errors : PySem.W.nsIn K mainGlobals "_law_errors" = some (some (.ref a_l_errors))) (L_l_errors : K.lookup a_l_errors = some ⟨oc_l_errors, od_l_errors, .func (PySem.W.fnOf "_law_errors" "_law_errors" (defArgs s_l_errors) (defBody s_l_errors) (defScope s_l_errors) .none kV_l_errors dc_l_errors pm_l_errors an_l_errors cd_l_errors ct_l_errors), sl_l_errors⟩) (C_l_errors : PySem.W.codeIn K cd_l_errors "_law_errors" = true) (K_l_errors : PySem.W.keepIn K (.ref a_l_errors) = true)
    {a_l_long : Addr} {od_l_long an_l_long : Option Addr} {sl_l_long : Array (Option Value)} {oc_l_long kV_l_long dc_l_long pm_l_long cd_l_long ct_l_long : Value}
    (A_l_long : PySem.W.nsIn K mainGlobals "_law_long" = some (some (.ref a_l_long))) (L_l_long : K.lookup a_l_long = some ⟨oc_l_long, od_l_long, .func (PySem.W.fnOf "_law_long" "_law_long" (defArgs s_l_long) (defBody s_l_long) (defScope s_l_long) .none kV_l_long dc_l_long pm_l_long an_l_long cd_l_long ct_l_long), sl_l_long⟩) (C_l_long : PySem.W.codeIn K cd_l_long "_law_long" = true) (K_l_long : PySem.W.keepIn K (.ref a_l_long) = true)
    {a_l_row : Addr} {od_l_row an_l_row : Option Addr} {sl_l_row : Array (Option Value)} {oc_l_row kV_l_row dc_l_row pm_l_row cd_l_row ct_l_row : Value}
    (A_l_row : PySem.W.nsIn K mainGlobals "_law_row" = some (some (.ref a_l_row))) (L_l_row : K.lookup a_l_row = some ⟨oc_l_row, od_l_row, .func (PySem.W.fnOf "_law_row" "_law_row" (defArgs s_l_row) (defBody s_l_row) (defScope s_l_row) .none kV_l_row dc_l_row pm_l_row an_l_row cd_l_row ct_l_row), sl_l_row⟩) (C_l_row : PySem.W.codeIn K cd_l_row "_law_row" = true) (K_l_row : PySem.W.keepIn K (.ref a_l_row) = true)
    {a_law : Addr} {od_law an_law : Option Addr} {sl_law : Array (Option Value)} {oc_law kV_law dc_law pm_law cd_law ct_law : Value}
    (A_law : PySem.W.nsIn K mainGlobals "law" = some (some (.ref a_law))) (L_law : K.lookup a_law = some ⟨oc_law, od_law, .func (PySem.W.fnOf "law" "law" (defArgs s_law) (defBody s_law) (defScope s_law) .none kV_law dc_law pm_law an_law cd_law ct_law), sl_law⟩) (C_law : PySem.W.codeIn K cd_law "law" = true) (K_law : PySem.W.keepIn K (.ref a_law) = true) :
    ∃ fd : FuncData, (∀ (s : Shared) (v : Value), BindsTo s fd ⟨[v], []⟩ [("_law_script", v)]) ∧ ∀ base : Heap, K.In base → base.Ns mainGlobals mg → FnOk P w K mg base (L2N.CX P w) 8 fa fd ["_law_script"] (spLaw K) := by
  have e := hfa.symm.trans (PySem.W.mg_of X G A_law)
  cases e
  have oex_InvalidPaper : OexC K C_InvalidPaper := ⟨⟨nm_InvalidPaper, q_InvalidPaper, N_InvalidPaper, bs_InvalidPaper, bm_InvalidPaper, sn_InvalidPaper, sub_InvalidPaper, ab_InvalidPaper, col_InvalidPaper, dd_InvalidPaper, m0_InvalidPaper, m1_InvalidPaper, m2_InvalidPaper, m3_InvalidPaper, m5_InvalidPaper, xL_InvalidPaper, xM_InvalidPaper⟩, sa_InvalidPaper, eC_InvalidPaper, t_InvalidPaper, kC_InvalidPaper⟩
  have xf_InvalidPaper : XfC K C_InvalidPaper := ⟨ga_InvalidPaper, gg_InvalidPaper, eC_InvalidPaper, hC_InvalidPaper⟩
  have xc_InvalidPaper : XcC K C_InvalidPaper := ⟨i_InvalidPaper, ga_InvalidPaper, gg_InvalidPaper, eC_InvalidPaper, gc_InvalidPaper, spec, takes, mo_InvalidPaper⟩
  have FI_InvalidPaper := fun_mk (st := sI_InvalidPaper) fl_InvalidPaper fc_InvalidPaper fk_InvalidPaper
  have ini_InvalidPaper : ∀ (P : Program) (w : World) (base : Heap), FnOk P w K mg base (L2N.CX P w) 1 f_InvalidPaper _ ["self", "word", "at"] (spIni C_InvalidPaper "word" "at") := fun P w base => ini_ok oex_InvalidPaper n_InvalidPaper_word n_InvalidPaper_at FI_InvalidPaper scI_InvalidPaper rfl rfl fun cdv A outer s H E => pss_cons (ps_ost (pv 0) (pv 1)) (pss_one (ps_ost (pv 0) (pv 2)))
  have oex_NotUsable : OexC K C_NotUsable := ⟨⟨nm_NotUsable, q_NotUsable, N_NotUsable, bs_NotUsable, bm_NotUsable, sn_NotUsable, sub_NotUsable, ab_NotUsable, col_NotUsable, dd_NotUsable, m0_NotUsable, m1_NotUsable, m2_NotUsable, m3_NotUsable, m5_NotUsable, xL_NotUsable, xM_NotUsable⟩, sa_NotUsable, eC_NotUsable, t_NotUsable, kC_NotUsable⟩
  have xf_NotUsable : XfC K C_NotUsable := ⟨ga_NotUsable, gg_NotUsable, eC_NotUsable, hC_NotUsable⟩
  have xc_NotUsable : XcC K C_NotUsable := ⟨i_NotUsable, ga_NotUsable, gg_NotUsable, eC_NotUsable, gc_NotUsable, spec, takes, mo_NotUsable⟩
  have FI_NotUsable := fun_mk (st := sI_NotUsable) fl_NotUsable fc_NotUsable fk_NotUsable
  have ini_NotUsable : ∀ (P : Program) (w : World) (base : Heap), FnOk P w K mg base (L2N.CX P w) 1 f_NotUsable _ ["self", "word", "at"] (spIni C_NotUsable "word" "at") := fun P w base => ini_ok oex_NotUsable n_NotUsable_word n_NotUsable_at FI_NotUsable scI_NotUsable rfl rfl fun cdv A outer s H E => pss_cons (ps_ost (pv 0) (pv 1)) (pss_one (ps_ost (pv 0) (pv 2)))
  have oex_Unfit : OexC K C_Unfit := ⟨⟨nm_Unfit, q_Unfit, N_Unfit, bs_Unfit, bm_Unfit, sn_Unfit, sub_Unfit, ab_Unfit, col_Unfit, dd_Unfit, m0_Unfit, m1_Unfit, m2_Unfit, m3_Unfit, m5_Unfit, xL_Unfit, xM_Unfit⟩, sa_Unfit, eC_Unfit, t_Unfit, kC_Unfit⟩
  have xf_Unfit : XfC K C_Unfit := ⟨ga_Unfit, gg_Unfit, eC_Unfit, hC_Unfit⟩
  have xc_Unfit : XcC K C_Unfit := ⟨i_Unfit, ga_Unfit, gg_Unfit, eC_Unfit, gc_Unfit, spec, takes, mo_Unfit⟩
  have FI_Unfit := fun_mk (st := sI_Unfit) fl_Unfit fc_Unfit fk_Unfit
  have ini_Unfit : ∀ (P : Program) (w : World) (base : Heap), FnOk P w K mg base (L2N.CX P w) 1 f_Unfit _ ["self", "barring"] (spIniN C_Unfit 1 (fs1 "barring")) := fun P w base => ini1_ok oex_Unfit n_Unfit_barring FI_Unfit scI_Unfit rfl rfl fun cdv A outer s H E => pss_one (ps_ost (pv 0) (pv 1))
  have oex_InvalidEvent : OexC K C_InvalidEvent := ⟨⟨nm_InvalidEvent, q_InvalidEvent, N_InvalidEvent, bs_InvalidEvent, bm_InvalidEvent, sn_InvalidEvent, sub_InvalidEvent, ab_InvalidEvent, col_InvalidEvent, dd_InvalidEvent, m0_InvalidEvent, m1_InvalidEvent, m2_InvalidEvent, m3_InvalidEvent, m5_InvalidEvent, xL_InvalidEvent, xM_InvalidEvent⟩, sa_InvalidEvent, eC_InvalidEvent, t_InvalidEvent, kC_InvalidEvent⟩
  have xf_InvalidEvent : XfC K C_InvalidEvent := ⟨ga_InvalidEvent, gg_InvalidEvent, eC_InvalidEvent, hC_InvalidEvent⟩
  have xc_InvalidEvent : XcC K C_InvalidEvent := ⟨i_InvalidEvent, ga_InvalidEvent, gg_InvalidEvent, eC_InvalidEvent, gc_InvalidEvent, spec, takes, mo_InvalidEvent⟩
  have FI_InvalidEvent := fun_mk (st := sI_InvalidEvent) fl_InvalidEvent fc_InvalidEvent fk_InvalidEvent
  have ini_InvalidEvent : ∀ (P : Program) (w : World) (base : Heap), FnOk P w K mg base (L2N.CX P w) 1 f_InvalidEvent _ ["self", "event", "reason"] (spIni C_InvalidEvent "event" "reason") := fun P w base => ini_ok oex_InvalidEvent n_InvalidEvent_event n_InvalidEvent_reason FI_InvalidEvent scI_InvalidEvent rfl rfl fun cdv A outer s H E => pss_cons (ps_ost (pv 0) (pv 1)) (pss_one (ps_ost (pv 0) (pv 2)))
  have oex_NothingToUndo : OexC K C_NothingToUndo := ⟨⟨nm_NothingToUndo, q_NothingToUndo, N_NothingToUndo, bs_NothingToUndo, bm_NothingToUndo, sn_NothingToUndo, sub_NothingToUndo, ab_NothingToUndo, col_NothingToUndo, dd_NothingToUndo, m0_NothingToUndo, m1_NothingToUndo, m2_NothingToUndo, m3_NothingToUndo, m5_NothingToUndo, xL_NothingToUndo, xM_NothingToUndo⟩, sa_NothingToUndo, eC_NothingToUndo, t_NothingToUndo, kC_NothingToUndo⟩
  have xf_NothingToUndo : XfC K C_NothingToUndo := ⟨ga_NothingToUndo, gg_NothingToUndo, eC_NothingToUndo, hC_NothingToUndo⟩
  have xc_NothingToUndo : XcC K C_NothingToUndo := ⟨i_NothingToUndo, ga_NothingToUndo, gg_NothingToUndo, eC_NothingToUndo, gc_NothingToUndo, spec, takes, mo_NothingToUndo⟩
  have FI_NothingToUndo := fun_mk (st := sI_NothingToUndo) fl_NothingToUndo fc_NothingToUndo fk_NothingToUndo
  have ini_NothingToUndo : ∀ (P : Program) (w : World) (base : Heap), FnOk P w K mg base (L2N.CX P w) 1 f_NothingToUndo _ ["self", "steps"] (spIniN C_NothingToUndo 1 (fs1 "steps")) := fun P w base => ini1_ok oex_NothingToUndo n_NothingToUndo_steps FI_NothingToUndo scI_NothingToUndo rfl rfl fun cdv A outer s H E => pss_one (ps_ost (pv 0) (pv 1))
  have oex_InvalidSketch : OexC K C_InvalidSketch := ⟨⟨nm_InvalidSketch, q_InvalidSketch, N_InvalidSketch, bs_InvalidSketch, bm_InvalidSketch, sn_InvalidSketch, sub_InvalidSketch, ab_InvalidSketch, col_InvalidSketch, dd_InvalidSketch, m0_InvalidSketch, m1_InvalidSketch, m2_InvalidSketch, m3_InvalidSketch, m5_InvalidSketch, xL_InvalidSketch, xM_InvalidSketch⟩, sa_InvalidSketch, eC_InvalidSketch, t_InvalidSketch, kC_InvalidSketch⟩
  have xf_InvalidSketch : XfC K C_InvalidSketch := ⟨ga_InvalidSketch, gg_InvalidSketch, eC_InvalidSketch, hC_InvalidSketch⟩
  have xc_InvalidSketch : XcC K C_InvalidSketch := ⟨i_InvalidSketch, ga_InvalidSketch, gg_InvalidSketch, eC_InvalidSketch, gc_InvalidSketch, spec, takes, mo_InvalidSketch⟩
  have FI_InvalidSketch := fun_mk (st := sI_InvalidSketch) fl_InvalidSketch fc_InvalidSketch fk_InvalidSketch
  have ini_InvalidSketch : ∀ (P : Program) (w : World) (base : Heap), FnOk P w K mg base (L2N.CX P w) 1 f_InvalidSketch _ ["self", "word", "at"] (spIni C_InvalidSketch "word" "at") := fun P w base => ini_ok oex_InvalidSketch n_InvalidSketch_word n_InvalidSketch_at FI_InvalidSketch scI_InvalidSketch rfl rfl fun cdv A outer s H E => pss_cons (ps_ost (pv 0) (pv 1)) (pss_one (ps_ost (pv 0) (pv 2)))
  have oex_InvalidText : OexC K C_InvalidText := ⟨⟨nm_InvalidText, q_InvalidText, N_InvalidText, bs_InvalidText, bm_InvalidText, sn_InvalidText, sub_InvalidText, ab_InvalidText, col_InvalidText, dd_InvalidText, m0_InvalidText, m1_InvalidText, m2_InvalidText, m3_InvalidText, m5_InvalidText, xL_InvalidText, xM_InvalidText⟩, sa_InvalidText, eC_InvalidText, t_InvalidText, kC_InvalidText⟩
  have xf_InvalidText : XfC K C_InvalidText := ⟨ga_InvalidText, gg_InvalidText, eC_InvalidText, hC_InvalidText⟩
  have xc_InvalidText : XcC K C_InvalidText := ⟨i_InvalidText, ga_InvalidText, gg_InvalidText, eC_InvalidText, gc_InvalidText, spec, takes, mo_InvalidText⟩
  have FI_InvalidText := fun_mk (st := sI_InvalidText) fl_InvalidText fc_InvalidText fk_InvalidText
  have ini_InvalidText : ∀ (P : Program) (w : World) (base : Heap), FnOk P w K mg base (L2N.CX P w) 1 f_InvalidText _ ["self", "line", "field"] (spIni C_InvalidText "line" "field") := fun P w base => ini_ok oex_InvalidText n_InvalidText_line n_InvalidText_field FI_InvalidText scI_InvalidText rfl rfl fun cdv A outer s H E => pss_cons (ps_ost (pv 0) (pv 1)) (pss_one (ps_ost (pv 0) (pv 2)))
  have bI := FI_NotUsable.binds (ps := ["self", "word", "at"]) fun _ _ _ _ _ _ us hl => match us, hl with | [_, _, _], _ => rfl
  let ad : Ads := ⟨C_HangError, C_LiveError, C_PaperError, C_PlanError, C_TextError, C_Unfit⟩
  have T : Tx K mg C_NotUsable f_NotUsable _ ad :=
    { oex := oex_NotUsable, hi := fi_NotUsable, ti := ft_NotUsable, ini := ini_NotUsable, bi := bI, m_C := PySem.W.mg_of X G a_NotUsable, exm := exm_of eC_NotUsable i_NotUsable t_NotUsable sC, xf := xf_NotUsable, no_word := n_NotUsable_word, no_at := n_NotUsable_at, m_gcd := PySem.W.mg_of X G aG, xc := xc_NotUsable, b_ValueError := PySem.W.mg_none_of X G z_ValueError, b_abs := PySem.W.mg_none_of X G z_abs, b_all := PySem.W.mg_none_of X G z_all, b_bool := PySem.W.mg_none_of X G z_bool, b_divmod := PySem.W.mg_none_of X G z_divmod, b_int := PySem.W.mg_none_of X G z_int, b_isinstance := PySem.W.mg_none_of X G z_isinstance, b_len := PySem.W.mg_none_of X G z_len, b_list := PySem.W.mg_none_of X G z_list, b_max := PySem.W.mg_none_of X G z_max, b_range := PySem.W.mg_none_of X G z_range, b_reversed := PySem.W.mg_none_of X G z_reversed, b_str := PySem.W.mg_none_of X G z_str, b_tuple := PySem.W.mg_none_of X G z_tuple, m_CHUNK := ⟨_, PySem.W.mg_of X G u_CHUNK⟩, m_CHUNK_FIGURES := ⟨_, PySem.W.mg_of X G u_CHUNK_FIGURES⟩, m_LETTERS := ⟨_, PySem.W.mg_of X G u_LETTERS⟩, m_HangError := PySem.W.mg_of X G a_HangError, m_LiveError := PySem.W.mg_of X G a_LiveError, m_PaperError := PySem.W.mg_of X G a_PaperError, m_PlanError := PySem.W.mg_of X G a_PlanError, m_TextError := PySem.W.mg_of X G a_TextError, m_Unfit := PySem.W.mg_of X G a_Unfit, k_HangError := kit_ref i_HangError t_HangError s_NotUsable_HangError d_NotUsable_HangError, k_LiveError := kit_ref i_LiveError t_LiveError s_NotUsable_LiveError d_NotUsable_LiveError, k_PaperError := kit_ref i_PaperError t_PaperError s_NotUsable_PaperError d_NotUsable_PaperError, k_PlanError := kit_ref i_PlanError t_PlanError s_NotUsable_PlanError d_NotUsable_PlanError, k_TextError := kit_ref i_TextError t_TextError s_NotUsable_TextError d_NotUsable_TextError, k_Unfit := kit_ref i_Unfit t_Unfit s_NotUsable_Unfit d_NotUsable_Unfit, k_ValueError := kit_bty (by decide +kernel) s_NotUsable_ValueError }
  let bd : Bds := ⟨C_InvalidPaper, C_InvalidEvent, C_NothingToUndo, C_InvalidSketch, C_InvalidText, f_InvalidPaper, (PySem.W.fnOf "__init__" "InvalidPaper.__init__" (defArgs sI_InvalidPaper) (defBody sI_InvalidPaper) (defScope sI_InvalidPaper) .none kVI_InvalidPaper dcI_InvalidPaper pmI_InvalidPaper anI_InvalidPaper cdI_InvalidPaper ctI_InvalidPaper), f_Unfit, (PySem.W.fnOf "__init__" "Unfit.__init__" (defArgs sI_Unfit) (defBody sI_Unfit) (defScope sI_Unfit) .none kVI_Unfit dcI_Unfit pmI_Unfit anI_Unfit cdI_Unfit ctI_Unfit), f_InvalidEvent, (PySem.W.fnOf "__init__" "InvalidEvent.__init__" (defArgs sI_InvalidEvent) (defBody sI_InvalidEvent) (defScope sI_InvalidEvent) .none kVI_InvalidEvent dcI_InvalidEvent pmI_InvalidEvent anI_InvalidEvent cdI_InvalidEvent ctI_InvalidEvent), f_NothingToUndo, (PySem.W.fnOf "__init__" "NothingToUndo.__init__" (defArgs sI_NothingToUndo) (defBody sI_NothingToUndo) (defScope sI_NothingToUndo) .none kVI_NothingToUndo dcI_NothingToUndo pmI_NothingToUndo anI_NothingToUndo cdI_NothingToUndo ctI_NothingToUndo), f_InvalidSketch, (PySem.W.fnOf "__init__" "InvalidSketch.__init__" (defArgs sI_InvalidSketch) (defBody sI_InvalidSketch) (defScope sI_InvalidSketch) .none kVI_InvalidSketch dcI_InvalidSketch pmI_InvalidSketch anI_InvalidSketch cdI_InvalidSketch ctI_InvalidSketch), f_InvalidText, (PySem.W.fnOf "__init__" "InvalidText.__init__" (defArgs sI_InvalidText) (defBody sI_InvalidText) (defScope sI_InvalidText) .none kVI_InvalidText dcI_InvalidText pmI_InvalidText anI_InvalidText cdI_InvalidText ctI_InvalidText)⟩
  have F_need := fun_mk (st := s_need) L_need C_need K_need
  have b_need := F_need.binds (ps := ["holds", "word"]) fun _ _ _ _ _ _ us hl => match us, hl with | [_, _], _ => rfl
  have F_is_integer := fun_mk (st := s_is_integer) L_is_integer C_is_integer K_is_integer
  have b_is_integer := F_is_integer.binds (ps := ["thing"]) fun _ _ _ _ _ _ us hl => match us, hl with | [_], _ => rfl
  have F_is_number := fun_mk (st := s_is_number) L_is_number C_is_number K_is_number
  have b_is_number := F_is_number.binds (ps := ["thing"]) fun _ _ _ _ _ _ us hl => match us, hl with | [_], _ => rfl
  have F_is_quotient := fun_mk (st := s_is_quotient) L_is_quotient C_is_quotient K_is_quotient
  have b_is_quotient := F_is_quotient.binds (ps := ["thing"]) fun _ _ _ _ _ _ us hl => match us, hl with | [_], _ => rfl
  have F_is_positive := fun_mk (st := s_is_positive) L_is_positive C_is_positive K_is_positive
  have b_is_positive := F_is_positive.binds (ps := ["thing"]) fun _ _ _ _ _ _ us hl => match us, hl with | [_], _ => rfl
  have F_is_row := fun_mk (st := s_is_row) L_is_row C_is_row K_is_row
  have b_is_row := F_is_row.binds (ps := ["thing"]) fun _ _ _ _ _ _ us hl => match us, hl with | [_], _ => rfl
  have F_is_shape_row := fun_mk (st := s_is_shape_row) L_is_shape_row C_is_shape_row K_is_shape_row
  have b_is_shape_row := F_is_shape_row.binds (ps := ["thing"]) fun _ _ _ _ _ _ us hl => match us, hl with | [_], _ => rfl
  have F_is_shapes := fun_mk (st := s_is_shapes) L_is_shapes C_is_shapes K_is_shapes
  have b_is_shapes := F_is_shapes.binds (ps := ["many", "thing"]) fun _ _ _ _ _ _ us hl => match us, hl with | [_, _], _ => rfl
  have F_is_table := fun_mk (st := s_is_table) L_is_table C_is_table K_is_table
  have b_is_table := F_is_table.binds (ps := ["many", "thing"]) fun _ _ _ _ _ _ us hl => match us, hl with | [_, _], _ => rfl
  have F_is_side := fun_mk (st := s_is_side) L_is_side C_is_side K_is_side
  have b_is_side := F_is_side.binds (ps := ["thing"]) fun _ _ _ _ _ _ us hl => match us, hl with | [_], _ => rfl
  have F_is_picture := fun_mk (st := s_is_picture) L_is_picture C_is_picture K_is_picture
  have b_is_picture := F_is_picture.binds (ps := ["many", "thing"]) fun _ _ _ _ _ _ us hl => match us, hl with | [_, _], _ => rfl
  have F_side_after := fun_mk (st := s_side_after) L_side_after C_side_after K_side_after
  have b_side_after := F_side_after.binds (ps := ["side"]) fun _ _ _ _ _ _ us hl => match us, hl with | [_], _ => rfl
  have F_side_opposite := fun_mk (st := s_side_opposite) L_side_opposite C_side_opposite K_side_opposite
  have b_side_opposite := F_side_opposite.binds (ps := ["side"]) fun _ _ _ _ _ _ us hl => match us, hl with | [_], _ => rfl
  have F_is_place_among := fun_mk (st := s_is_place_among) L_is_place_among C_is_place_among K_is_place_among
  have b_is_place_among := F_is_place_among.binds (ps := ["many", "thing"]) fun _ _ _ _ _ _ us hl => match us, hl with | [_, _], _ => rfl
  have F_is_place := fun_mk (st := s_is_place) L_is_place C_is_place K_is_place
  have b_is_place := F_is_place.binds (ps := ["many", "thing"]) fun _ _ _ _ _ _ us hl => match us, hl with | [_, _], _ => rfl
  have F_decimal := fun_mk (st := s_decimal) L_decimal C_decimal K_decimal
  have b_decimal := F_decimal.binds (ps := ["number"]) fun _ _ _ _ _ _ us hl => match us, hl with | [_], _ => rfl
  have F_place_letter := fun_mk (st := s_place_letter) L_place_letter C_place_letter K_place_letter
  have b_place_letter := F_place_letter.binds (ps := ["place"]) fun _ _ _ _ _ _ us hl => match us, hl with | [_], _ => rfl
  have F_reduced := fun_mk (st := s_reduced) L_reduced C_reduced K_reduced
  have b_reduced := F_reduced.binds (ps := ["top", "bottom"]) fun _ _ _ _ _ _ us hl => match us, hl with | [_, _], _ => rfl
  have F_sum_of_two := fun_mk (st := s_sum_of_two) L_sum_of_two C_sum_of_two K_sum_of_two
  have b_sum_of_two := F_sum_of_two.binds (ps := ["one", "other"]) fun _ _ _ _ _ _ us hl => match us, hl with | [_, _], _ => rfl
  have F_product_of_two := fun_mk (st := s_product_of_two) L_product_of_two C_product_of_two K_product_of_two
  have b_product_of_two := F_product_of_two.binds (ps := ["one", "other"]) fun _ _ _ _ _ _ us hl => match us, hl with | [_, _], _ => rfl
  have F_difference_of_two := fun_mk (st := s_difference_of_two) L_difference_of_two C_difference_of_two K_difference_of_two
  have b_difference_of_two := F_difference_of_two.binds (ps := ["one", "other"]) fun _ _ _ _ _ _ us hl => match us, hl with | [_, _], _ => rfl
  have F_ratio_of_two := fun_mk (st := s_ratio_of_two) L_ratio_of_two C_ratio_of_two K_ratio_of_two
  have b_ratio_of_two := F_ratio_of_two.binds (ps := ["one", "other"]) fun _ _ _ _ _ _ us hl => match us, hl with | [_, _], _ => rfl
  have F_lies_below := fun_mk (st := s_lies_below) L_lies_below C_lies_below K_lies_below
  have b_lies_below := F_lies_below.binds (ps := ["one", "other"]) fun _ _ _ _ _ _ us hl => match us, hl with | [_, _], _ => rfl
  have F_need_two := fun_mk (st := s_need_two) L_need_two C_need_two K_need_two
  have b_need_two := F_need_two.binds (ps := ["one", "other"]) fun _ _ _ _ _ _ us hl => match us, hl with | [_, _], _ => rfl
  have F_plus := fun_mk (st := s_plus) L_plus C_plus K_plus
  have b_plus := F_plus.binds (ps := ["one", "other"]) fun _ _ _ _ _ _ us hl => match us, hl with | [_, _], _ => rfl
  have F_minus := fun_mk (st := s_minus) L_minus C_minus K_minus
  have b_minus := F_minus.binds (ps := ["one", "other"]) fun _ _ _ _ _ _ us hl => match us, hl with | [_, _], _ => rfl
  have F_times := fun_mk (st := s_times) L_times C_times K_times
  have b_times := F_times.binds (ps := ["one", "other"]) fun _ _ _ _ _ _ us hl => match us, hl with | [_, _], _ => rfl
  have F_over := fun_mk (st := s_over) L_over C_over K_over
  have b_over := F_over.binds (ps := ["one", "other"]) fun _ _ _ _ _ _ us hl => match us, hl with | [_, _], _ => rfl
  have F_is_less := fun_mk (st := s_is_less) L_is_less C_is_less K_is_less
  have b_is_less := F_is_less.binds (ps := ["one", "other"]) fun _ _ _ _ _ _ us hl => match us, hl with | [_, _], _ => rfl
  have F_l_mixed := fun_mk (st := s_l_mixed) L_l_mixed C_l_mixed K_l_mixed
  have b_l_mixed := F_l_mixed.binds (ps := ["_law_cell", "_law_tick"]) fun _ _ _ _ _ _ us hl => match us, hl with | [_, _], _ => rfl
  have F_l_pool := fun_mk (st := s_l_pool) L_l_pool C_l_pool K_l_pool
  have b_l_pool := F_l_pool.binds (ps := ["_law_script"]) fun _ _ _ _ _ _ us hl => match us, hl with | [_], _ => rfl
  have F_l_take := fun_mk (st := s_l_take) L_l_take C_l_take K_l_take
  have b_l_take := F_l_take.binds (ps := ["_law_pool_here", "_law_size"]) fun _ _ _ _ _ _ us hl => match us, hl with | [_, _], _ => rfl
  have F_l_whole := fun_mk (st := s_l_whole) L_l_whole C_l_whole K_l_whole
  have b_l_whole := F_l_whole.binds (ps := ["_law_value_here"]) fun _ _ _ _ _ _ us hl => match us, hl with | [_], _ => rfl
  have F_l_common := fun_mk (st := s_l_common) L_l_common C_l_common K_l_common
  have b_l_common := F_l_common.binds (ps := ["_law_high", "_law_low_here"]) fun _ _ _ _ _ _ us hl => match us, hl with | [_, _], _ => rfl
  have F_l_low := fun_mk (st := s_l_low) L_l_low C_l_low K_l_low
  have b_l_low := F_l_low.binds (ps := ["_law_top", "_law_bottom"]) fun _ _ _ _ _ _ us hl => match us, hl with | [_, _], _ => rfl
  have F_l_quotient := fun_mk (st := s_l_quotient) L_l_quotient C_l_quotient K_l_quotient
  have b_l_quotient := F_l_quotient.binds (ps := ["_law_value_here"]) fun _ _ _ _ _ _ us hl => match us, hl with | [_], _ => rfl
  have F_l_small := fun_mk (st := s_l_small) L_l_small C_l_small K_l_small
  have b_l_small := F_l_small.binds (ps := ["_law_pool_here"]) fun _ _ _ _ _ _ us hl => match us, hl with | [_], _ => rfl
  have F_l_great := fun_mk (st := s_l_great) L_l_great C_l_great K_l_great
  have b_l_great := F_l_great.binds (ps := ["_law_pool_here"]) fun _ _ _ _ _ _ us hl => match us, hl with | [_], _ => rfl
  have F_l_value := fun_mk (st := s_l_value) L_l_value C_l_value K_l_value
  have b_l_value := F_l_value.binds (ps := ["_law_pool_here"]) fun _ _ _ _ _ _ us hl => match us, hl with | [_], _ => rfl
  have F_l_like := fun_mk (st := s_l_like) L_l_like C_l_like K_l_like
  have b_l_like := F_l_like.binds (ps := ["_law_told", "_law_due"]) fun _ _ _ _ _ _ us hl => match us, hl with | [_, _], _ => rfl
  have F_l_kin := fun_mk (st := s_l_kin) L_l_kin C_l_kin K_l_kin
  have b_l_kin := F_l_kin.binds (ps := ["_law_e"]) fun _ _ _ _ _ _ us hl => match us, hl with | [_], _ => rfl
  have F_l_two := fun_mk (st := s_l_two) L_l_two C_l_two K_l_two
  have b_l_two := F_l_two.binds (ps := ["_law_deed", "_law_left", "_law_right", "_law_named"]) fun _ _ _ _ _ _ us hl => match us, hl with | [_, _, _, _], _ => rfl
  have F_l_single := fun_mk (st := s_l_single) L_l_single C_l_single K_l_single
  have b_l_single := F_l_single.binds (ps := ["_law_deed", "_law_value_here", "_law_named"]) fun _ _ _ _ _ _ us hl => match us, hl with | [_, _, _], _ => rfl
  have F_l_all_of := fun_mk (st := s_l_all_of) L_l_all_of C_l_all_of K_l_all_of
  have b_l_all_of := F_l_all_of.binds (ps := ["_law_count", "_law_value_here", "_law_least"]) fun _ _ _ _ _ _ us hl => match us, hl with | [_, _, _], _ => rfl
  have F_l_reckoned := fun_mk (st := s_l_reckoned) L_l_reckoned C_l_reckoned K_l_reckoned
  have b_l_reckoned := F_l_reckoned.binds (ps := ["_law_deed", "_law_left", "_law_right", "_law_told"]) fun _ _ _ _ _ _ us hl => match us, hl with | [_, _, _, _], _ => rfl
  have F_l_pair := fun_mk (st := s_l_pair) L_l_pair C_l_pair K_l_pair
  have b_l_pair := F_l_pair.binds (ps := ["_law_deed", "_law_left", "_law_right", "_law_named"]) fun _ _ _ _ _ _ us hl => match us, hl with | [_, _, _, _], _ => rfl
  have F_l_alone := fun_mk (st := s_l_alone) L_l_alone C_l_alone K_l_alone
  have b_l_alone := F_l_alone.binds (ps := ["_law_value_here", "_law_named"]) fun _ _ _ _ _ _ us hl => match us, hl with | [_, _], _ => rfl
  have F_l_papers := fun_mk (st := s_l_papers) L_l_papers C_l_papers K_l_papers
  have b_l_papers := F_l_papers.binds (ps := ["_law_first", "_law_second"]) fun _ _ _ _ _ _ us hl => match us, hl with | [_, _], _ => rfl
  have F_l_errors := fun_mk (st := s_l_errors) L_l_errors C_l_errors K_l_errors
  have b_l_errors := F_l_errors.binds (ps := ["_law_first", "_law_second"]) fun _ _ _ _ _ _ us hl => match us, hl with | [_, _], _ => rfl
  have F_l_long := fun_mk (st := s_l_long) L_l_long C_l_long K_l_long
  have b_l_long := F_l_long.binds (ps := ["_law_pool_here"]) fun _ _ _ _ _ _ us hl => match us, hl with | [_], _ => rfl
  have F_l_row := fun_mk (st := s_l_row) L_l_row C_l_row K_l_row
  have b_l_row := F_l_row.binds (ps := ["_law_pool_here"]) fun _ _ _ _ _ _ us hl => match us, hl with | [_], _ => rfl
  have F_law := fun_mk (st := s_law) L_law C_law K_law
  have b_law := F_law.binds (ps := ["_law_script"]) fun _ _ _ _ _ _ us hl => match us, hl with | [_], _ => rfl
  refine ⟨PySem.W.fnOf "law" "law" (defArgs s_law) (defBody s_law) (defScope s_law) .none kV_law dc_law pm_law an_law cd_law ct_law, fun s v => .of_eq rfl, fun base _ _ => ?_⟩
  have U : Ty P w K mg base C_NotUsable f_NotUsable _ ad bd :=
    { B_InvalidPaper := ⟨oex_InvalidPaper, xf_InvalidPaper, xc_InvalidPaper, fi_InvalidPaper, ft_InvalidPaper, (iniN_two (ini_InvalidPaper P w base)), PySem.W.mg_of X G a_InvalidPaper, FI_InvalidPaper⟩, B_NotUsable := ⟨oex_NotUsable, xf_NotUsable, xc_NotUsable, fi_NotUsable, ft_NotUsable, (iniN_two (ini_NotUsable P w base)), PySem.W.mg_of X G a_NotUsable, FI_NotUsable⟩, B_Unfit := ⟨oex_Unfit, xf_Unfit, xc_Unfit, fi_Unfit, ft_Unfit, (ini_Unfit P w base), PySem.W.mg_of X G a_Unfit, FI_Unfit⟩, B_InvalidEvent := ⟨oex_InvalidEvent, xf_InvalidEvent, xc_InvalidEvent, fi_InvalidEvent, ft_InvalidEvent, (iniN_two (ini_InvalidEvent P w base)), PySem.W.mg_of X G a_InvalidEvent, FI_InvalidEvent⟩, B_NothingToUndo := ⟨oex_NothingToUndo, xf_NothingToUndo, xc_NothingToUndo, fi_NothingToUndo, ft_NothingToUndo, (ini_NothingToUndo P w base), PySem.W.mg_of X G a_NothingToUndo, FI_NothingToUndo⟩, B_InvalidSketch := ⟨oex_InvalidSketch, xf_InvalidSketch, xc_InvalidSketch, fi_InvalidSketch, ft_InvalidSketch, (iniN_two (ini_InvalidSketch P w base)), PySem.W.mg_of X G a_InvalidSketch, FI_InvalidSketch⟩, B_InvalidText := ⟨oex_InvalidText, xf_InvalidText, xc_InvalidText, fi_InvalidText, ft_InvalidText, (iniN_two (ini_InvalidText P w base)), PySem.W.mg_of X G a_InvalidText, FI_InvalidText⟩, n_InvalidPaper_word := n_InvalidPaper_word, n_InvalidPaper_at := n_InvalidPaper_at, n_NotUsable_word := n_NotUsable_word, n_NotUsable_at := n_NotUsable_at, n_Unfit_barring := n_Unfit_barring, n_InvalidEvent_event := n_InvalidEvent_event, n_InvalidEvent_reason := n_InvalidEvent_reason, n_NothingToUndo_steps := n_NothingToUndo_steps, n_InvalidSketch_word := n_InvalidSketch_word, n_InvalidSketch_at := n_InvalidSketch_at, n_InvalidText_line := n_InvalidText_line, n_InvalidText_field := n_InvalidText_field, k_InvalidPaper_PaperError := kit_ref i_PaperError t_PaperError s_InvalidPaper_PaperError d_InvalidPaper_PaperError, k_InvalidPaper_PlanError := kit_ref i_PlanError t_PlanError s_InvalidPaper_PlanError d_InvalidPaper_PlanError, k_InvalidPaper_HangError := kit_ref i_HangError t_HangError s_InvalidPaper_HangError d_InvalidPaper_HangError, k_InvalidPaper_ValueError := kit_bty (by decide +kernel) s_InvalidPaper_ValueError, k_InvalidPaper_TextError := kit_ref i_TextError t_TextError s_InvalidPaper_TextError d_InvalidPaper_TextError, k_InvalidSketch_PaperError := kit_ref i_PaperError t_PaperError s_InvalidSketch_PaperError d_InvalidSketch_PaperError, k_InvalidSketch_PlanError := kit_ref i_PlanError t_PlanError s_InvalidSketch_PlanError d_InvalidSketch_PlanError, k_InvalidSketch_TextError := kit_ref i_TextError t_TextError s_InvalidSketch_TextError d_InvalidSketch_TextError, k_InvalidSketch_HangError := kit_ref i_HangError t_HangError s_InvalidSketch_HangError d_InvalidSketch_HangError, k_InvalidSketch_InvalidText := kit_ref i_InvalidText t_InvalidText s_InvalidSketch_InvalidText d_InvalidSketch_InvalidText, k_Unfit_PlanError := kit_ref i_PlanError t_PlanError s_Unfit_PlanError d_Unfit_PlanError, k_Unfit_NotUsable := kit_ref i_NotUsable t_NotUsable s_Unfit_NotUsable d_Unfit_NotUsable, k_Unfit_HangError := kit_ref i_HangError t_HangError s_Unfit_HangError d_Unfit_HangError, k_Unfit_ValueError := kit_bty (by decide +kernel) s_Unfit_ValueError, k_Unfit_PaperError := kit_ref i_PaperError t_PaperError s_Unfit_PaperError d_Unfit_PaperError, k_InvalidEvent_LiveError := kit_ref i_LiveError t_LiveError s_InvalidEvent_LiveError d_InvalidEvent_LiveError, k_InvalidEvent_PlanError := kit_ref i_PlanError t_PlanError s_InvalidEvent_PlanError d_InvalidEvent_PlanError, k_InvalidEvent_NothingToUndo := kit_ref i_NothingToUndo t_NothingToUndo s_InvalidEvent_NothingToUndo d_InvalidEvent_NothingToUndo, k_InvalidEvent_HangError := kit_ref i_HangError t_HangError s_InvalidEvent_HangError d_InvalidEvent_HangError, k_InvalidEvent_ValueError := kit_bty (by decide +kernel) s_InvalidEvent_ValueError, k_InvalidEvent_PaperError := kit_ref i_PaperError t_PaperError s_InvalidEvent_PaperError d_InvalidEvent_PaperError, k_NothingToUndo_LiveError := kit_ref i_LiveError t_LiveError s_NothingToUndo_LiveError d_NothingToUndo_LiveError, k_NothingToUndo_InvalidEvent := kit_ref i_InvalidEvent t_InvalidEvent s_NothingToUndo_InvalidEvent d_NothingToUndo_InvalidEvent, k_NothingToUndo_HangError := kit_ref i_HangError t_HangError s_NothingToUndo_HangError d_NothingToUndo_HangError, k_NothingToUndo_ValueError := kit_bty (by decide +kernel) s_NothingToUndo_ValueError, k_NothingToUndo_PaperError := kit_ref i_PaperError t_PaperError s_NothingToUndo_PaperError d_NothingToUndo_PaperError, k_InvalidText_TextError := kit_ref i_TextError t_TextError s_InvalidText_TextError d_InvalidText_TextError, k_InvalidText_InvalidSketch := kit_ref i_InvalidSketch t_InvalidSketch s_InvalidText_InvalidSketch d_InvalidText_InvalidSketch, k_InvalidText_LiveError := kit_ref i_LiveError t_LiveError s_InvalidText_LiveError d_InvalidText_LiveError, k_InvalidText_HangError := kit_ref i_HangError t_HangError s_InvalidText_HangError d_InvalidText_HangError, k_InvalidText_ValueError := kit_bty (by decide +kernel) s_InvalidText_ValueError, k_InvalidText_PaperError := kit_ref i_PaperError t_PaperError s_InvalidText_PaperError d_InvalidText_PaperError }
  have k_need : Cl P w K mg base 3 "need" s_need ["holds", "word"] 2 (c_need C_NotUsable) a_need _ := ⟨fn_ok F_need sc_need rfl (d_need T  ) r_need, PySem.W.mg_of X G A_need, K_need, b_need, F_need⟩
  have k_is_integer : Cl P w K mg base 1 "is_integer" s_is_integer ["thing"] 1 c_is_integer a_is_integer _ := ⟨fn_ok F_is_integer sc_is_integer rfl (d_is_integer T  ) r_is_integer, PySem.W.mg_of X G A_is_integer, K_is_integer, b_is_integer, F_is_integer⟩
  have k_is_number : Cl P w K mg base 2 "is_number" s_is_number ["thing"] 1 c_is_number a_is_number _ := ⟨fn_ok F_is_number sc_is_number rfl (d_is_number T (H_is_integer := k_is_integer) ) r_is_number, PySem.W.mg_of X G A_is_number, K_is_number, b_is_number, F_is_number⟩
  have k_is_quotient : Cl P w K mg base 2 "is_quotient" s_is_quotient ["thing"] 1 c_is_quotient a_is_quotient _ := ⟨fn_ok F_is_quotient sc_is_quotient rfl (d_is_quotient T (H_is_integer := k_is_integer) ) r_is_quotient, PySem.W.mg_of X G A_is_quotient, K_is_quotient, b_is_quotient, F_is_quotient⟩
  have k_is_positive : Cl P w K mg base 3 "is_positive" s_is_positive ["thing"] 1 c_is_positive a_is_positive _ := ⟨fn_ok F_is_positive sc_is_positive rfl (d_is_positive T (H_is_quotient := k_is_quotient) ) r_is_positive, PySem.W.mg_of X G A_is_positive, K_is_positive, b_is_positive, F_is_positive⟩
  have k_is_row : Cl P w K mg base 3 "is_row" s_is_row ["thing"] 1 c_is_row a_is_row _ := ⟨fn_ok F_is_row sc_is_row rfl (d_is_row T (H_is_quotient := k_is_quotient) ) r_is_row, PySem.W.mg_of X G A_is_row, K_is_row, b_is_row, F_is_row⟩
  have k_is_shape_row : Cl P w K mg base 4 "is_shape_row" s_is_shape_row ["thing"] 1 c_is_shape_row a_is_shape_row _ := ⟨fn_ok F_is_shape_row sc_is_shape_row rfl (d_is_shape_row T (H_is_row := k_is_row) ) r_is_shape_row, PySem.W.mg_of X G A_is_shape_row, K_is_shape_row, b_is_shape_row, F_is_shape_row⟩
  have k_is_shapes : Cl P w K mg base 5 "is_shapes" s_is_shapes ["many", "thing"] 2 (c_is_shapes C_NotUsable) a_is_shapes _ := ⟨fn_ok F_is_shapes sc_is_shapes rfl (d_is_shapes T (H_need := k_need) (H_is_number := k_is_number) (H_is_shape_row := k_is_shape_row) ) r_is_shapes, PySem.W.mg_of X G A_is_shapes, K_is_shapes, b_is_shapes, F_is_shapes⟩
  have k_is_table : Cl P w K mg base 4 "is_table" s_is_table ["many", "thing"] 2 (c_is_table C_NotUsable) a_is_table _ := ⟨fn_ok F_is_table sc_is_table rfl (d_is_table T (H_need := k_need) (H_is_number := k_is_number) (H_is_row := k_is_row) ) r_is_table, PySem.W.mg_of X G A_is_table, K_is_table, b_is_table, F_is_table⟩
  have k_is_side : Cl P w K mg base 2 "is_side" s_is_side ["thing"] 1 c_is_side a_is_side _ := ⟨fn_ok F_is_side sc_is_side rfl (d_is_side T (H_is_integer := k_is_integer) ) r_is_side, PySem.W.mg_of X G A_is_side, K_is_side, b_is_side, F_is_side⟩
  have k_is_picture : Cl P w K mg base 2 "is_picture" s_is_picture ["many", "thing"] 2 c_is_picture a_is_picture _ := ⟨fn_ok F_is_picture sc_is_picture rfl (d_is_picture T (H_is_integer := k_is_integer) ) r_is_picture, PySem.W.mg_of X G A_is_picture, K_is_picture, b_is_picture, F_is_picture⟩
  have k_side_after : Cl P w K mg base 4 "side_after" s_side_after ["side"] 1 (c_side_after C_NotUsable) a_side_after _ := ⟨fn_ok F_side_after sc_side_after rfl (d_side_after T (H_need := k_need) (H_is_side := k_is_side) ) r_side_after, PySem.W.mg_of X G A_side_after, K_side_after, b_side_after, F_side_after⟩
  have k_side_opposite : Cl P w K mg base 4 "side_opposite" s_side_opposite ["side"] 1 (c_side_opposite C_NotUsable) a_side_opposite _ := ⟨fn_ok F_side_opposite sc_side_opposite rfl (d_side_opposite T (H_need := k_need) (H_is_side := k_is_side) ) r_side_opposite, PySem.W.mg_of X G A_side_opposite, K_side_opposite, b_side_opposite, F_side_opposite⟩
  have k_is_place_among : Cl P w K mg base 3 "is_place_among" s_is_place_among ["many", "thing"] 2 c_is_place_among a_is_place_among _ := ⟨fn_ok F_is_place_among sc_is_place_among rfl (d_is_place_among T (H_is_side := k_is_side) (H_is_picture := k_is_picture) ) r_is_place_among, PySem.W.mg_of X G A_is_place_among, K_is_place_among, b_is_place_among, F_is_place_among⟩
  have k_is_place : Cl P w K mg base 4 "is_place" s_is_place ["many", "thing"] 2 (c_is_place C_NotUsable) a_is_place _ := ⟨fn_ok F_is_place sc_is_place rfl (d_is_place T (H_need := k_need) (H_is_place_among := k_is_place_among) (H_is_number := k_is_number) ) r_is_place, PySem.W.mg_of X G A_is_place, K_is_place, b_is_place, F_is_place⟩
  have k_decimal : Cl P w K mg base 1 "decimal" s_decimal ["number"] 1 c_decimal a_decimal _ := ⟨fn_ok F_decimal sc_decimal rfl (d_decimal T  ) r_decimal, PySem.W.mg_of X G A_decimal, K_decimal, b_decimal, F_decimal⟩
  have k_place_letter : Cl P w K mg base 4 "place_letter" s_place_letter ["place"] 1 (c_place_letter C_NotUsable) a_place_letter _ := ⟨fn_ok F_place_letter sc_place_letter rfl (d_place_letter T (H_need := k_need) (H_decimal := k_decimal) (H_is_side := k_is_side) (H_is_number := k_is_number) ) r_place_letter, PySem.W.mg_of X G A_place_letter, K_place_letter, b_place_letter, F_place_letter⟩
  have k_reduced : Cl P w K mg base 1 "reduced" s_reduced ["top", "bottom"] 2 c_reduced a_reduced _ := ⟨fn_ok F_reduced sc_reduced rfl (d_reduced T  ) r_reduced, PySem.W.mg_of X G A_reduced, K_reduced, b_reduced, F_reduced⟩
  have k_sum_of_two : Cl P w K mg base 2 "sum_of_two" s_sum_of_two ["one", "other"] 2 c_sum_of_two a_sum_of_two _ := ⟨fn_ok F_sum_of_two sc_sum_of_two rfl (d_sum_of_two T (H_reduced := k_reduced) ) r_sum_of_two, PySem.W.mg_of X G A_sum_of_two, K_sum_of_two, b_sum_of_two, F_sum_of_two⟩
  have k_product_of_two : Cl P w K mg base 2 "product_of_two" s_product_of_two ["one", "other"] 2 c_product_of_two a_product_of_two _ := ⟨fn_ok F_product_of_two sc_product_of_two rfl (d_product_of_two T (H_reduced := k_reduced) ) r_product_of_two, PySem.W.mg_of X G A_product_of_two, K_product_of_two, b_product_of_two, F_product_of_two⟩
  have k_difference_of_two : Cl P w K mg base 2 "difference_of_two" s_difference_of_two ["one", "other"] 2 c_difference_of_two a_difference_of_two _ := ⟨fn_ok F_difference_of_two sc_difference_of_two rfl (d_difference_of_two T (H_reduced := k_reduced) ) r_difference_of_two, PySem.W.mg_of X G A_difference_of_two, K_difference_of_two, b_difference_of_two, F_difference_of_two⟩
  have k_ratio_of_two : Cl P w K mg base 2 "ratio_of_two" s_ratio_of_two ["one", "other"] 2 c_ratio_of_two a_ratio_of_two _ := ⟨fn_ok F_ratio_of_two sc_ratio_of_two rfl (d_ratio_of_two T (H_reduced := k_reduced) ) r_ratio_of_two, PySem.W.mg_of X G A_ratio_of_two, K_ratio_of_two, b_ratio_of_two, F_ratio_of_two⟩
  have k_lies_below : Cl P w K mg base 1 "lies_below" s_lies_below ["one", "other"] 2 c_lies_below a_lies_below _ := ⟨fn_ok F_lies_below sc_lies_below rfl (d_lies_below T  ) r_lies_below, PySem.W.mg_of X G A_lies_below, K_lies_below, b_lies_below, F_lies_below⟩
  have k_need_two : Cl P w K mg base 4 "need_two" s_need_two ["one", "other"] 2 (c_need_two C_NotUsable) a_need_two _ := ⟨fn_ok F_need_two sc_need_two rfl (d_need_two T (H_need := k_need) (H_is_quotient := k_is_quotient) ) r_need_two, PySem.W.mg_of X G A_need_two, K_need_two, b_need_two, F_need_two⟩
  have k_plus : Cl P w K mg base 5 "plus" s_plus ["one", "other"] 2 (c_plus C_NotUsable) a_plus _ := ⟨fn_ok F_plus sc_plus rfl (d_plus T (H_need_two := k_need_two) (H_sum_of_two := k_sum_of_two) ) r_plus, PySem.W.mg_of X G A_plus, K_plus, b_plus, F_plus⟩
  have k_minus : Cl P w K mg base 5 "minus" s_minus ["one", "other"] 2 (c_minus C_NotUsable) a_minus _ := ⟨fn_ok F_minus sc_minus rfl (d_minus T (H_need_two := k_need_two) (H_difference_of_two := k_difference_of_two) ) r_minus, PySem.W.mg_of X G A_minus, K_minus, b_minus, F_minus⟩
  have k_times : Cl P w K mg base 5 "times" s_times ["one", "other"] 2 (c_times C_NotUsable) a_times _ := ⟨fn_ok F_times sc_times rfl (d_times T (H_need_two := k_need_two) (H_product_of_two := k_product_of_two) ) r_times, PySem.W.mg_of X G A_times, K_times, b_times, F_times⟩
  have k_over : Cl P w K mg base 5 "over" s_over ["one", "other"] 2 (c_over C_NotUsable) a_over _ := ⟨fn_ok F_over sc_over rfl (d_over T (H_need_two := k_need_two) (H_need := k_need) (H_ratio_of_two := k_ratio_of_two) ) r_over, PySem.W.mg_of X G A_over, K_over, b_over, F_over⟩
  have k_is_less : Cl P w K mg base 5 "is_less" s_is_less ["one", "other"] 2 (c_is_less C_NotUsable) a_is_less _ := ⟨fn_ok F_is_less sc_is_less rfl (d_is_less T (H_need_two := k_need_two) (H_lies_below := k_lies_below) ) r_is_less, PySem.W.mg_of X G A_is_less, K_is_less, b_is_less, F_is_less⟩
  have k_l_mixed : Cl P w K mg base 1 "_law_mixed" s_l_mixed ["_law_cell", "_law_tick"] 2 c_l_mixed a_l_mixed _ := ⟨fn_ok F_l_mixed sc_l_mixed rfl (d_l_mixed T  ) r_l_mixed, PySem.W.mg_of X G A_l_mixed, K_l_mixed, b_l_mixed, F_l_mixed⟩
  have k_l_take : Cl P w K mg base 2 "_law_take" s_l_take ["_law_pool_here", "_law_size"] 2 c_l_take a_l_take _ := ⟨f_l_take T F_l_take k_l_mixed, PySem.W.mg_of X G A_l_take, K_l_take, b_l_take, F_l_take⟩
  have k_l_whole : Cl P w K mg base 1 "_law_whole" s_l_whole ["_law_value_here"] 1 c_l_whole a_l_whole _ := ⟨fn_ok F_l_whole sc_l_whole rfl (d_l_whole T  ) r_l_whole, PySem.W.mg_of X G A_l_whole, K_l_whole, b_l_whole, F_l_whole⟩
  have k_l_common : Cl P w K mg base 1 "_law_common" s_l_common ["_law_high", "_law_low_here"] 2 c_l_common a_l_common _ := ⟨fn_ok F_l_common sc_l_common rfl (d_l_common T  ) r_l_common, PySem.W.mg_of X G A_l_common, K_l_common, b_l_common, F_l_common⟩
  have k_l_low : Cl P w K mg base 2 "_law_low" s_l_low ["_law_top", "_law_bottom"] 2 c_l_low a_l_low _ := ⟨fn_ok F_l_low sc_l_low rfl (d_l_low T (H_l_common := k_l_common) ) r_l_low, PySem.W.mg_of X G A_l_low, K_l_low, b_l_low, F_l_low⟩
  have k_l_quotient : Cl P w K mg base 2 "_law_quotient" s_l_quotient ["_law_value_here"] 1 c_l_quotient a_l_quotient _ := ⟨fn_ok F_l_quotient sc_l_quotient rfl (d_l_quotient T (H_l_common := k_l_common) (H_l_whole := k_l_whole) ) r_l_quotient, PySem.W.mg_of X G A_l_quotient, K_l_quotient, b_l_quotient, F_l_quotient⟩
  have k_l_small : Cl P w K mg base 3 "_law_small" s_l_small ["_law_pool_here"] 1 c_l_small a_l_small _ := ⟨fn_ok F_l_small sc_l_small rfl (d_l_small T (H_l_low := k_l_low) (H_l_take := k_l_take) ) r_l_small, PySem.W.mg_of X G A_l_small, K_l_small, b_l_small, F_l_small⟩
  have k_l_great : Cl P w K mg base 3 "_law_great" s_l_great ["_law_pool_here"] 1 c_l_great a_l_great _ := ⟨fn_ok F_l_great sc_l_great rfl (d_l_great T (H_l_take := k_l_take) ) r_l_great, PySem.W.mg_of X G A_l_great, K_l_great, b_l_great, F_l_great⟩
  have k_l_value : Cl P w K mg base 4 "_law_value" s_l_value ["_law_pool_here"] 1 c_l_value a_l_value _ := ⟨fn_ok F_l_value sc_l_value rfl (d_l_value T (H_l_take := k_l_take) (H_l_small := k_l_small) (H_l_low := k_l_low) (H_l_great := k_l_great) ) r_l_value, PySem.W.mg_of X G A_l_value, K_l_value, b_l_value, F_l_value⟩
  have k_l_likeF : Cl P w K mg base 1 "_law_like" s_l_like ["_law_told", "_law_due"] 2 cF a_l_like _ := ⟨f_none F_l_like sc_l_like, PySem.W.mg_of X G A_l_like, K_l_like, b_l_like, F_l_like⟩
  have k_l_like0 : Cl P w K mg base 2 "_law_like" s_l_like ["_law_told", "_law_due"] 2 c_l_like0 a_l_like _ := ⟨fn_ok F_l_like sc_l_like rfl (d_l_like0 (a_l_like := a_l_like) T (H_l_whole := k_l_whole) (H_l_like := k_l_likeF)) r_l_like0, PySem.W.mg_of X G A_l_like, K_l_like, b_l_like, F_l_like⟩
  have k_l_like1 : Cl P w K mg base 3 "_law_like" s_l_like ["_law_told", "_law_due"] 2 c_l_like1 a_l_like _ := ⟨fn_ok F_l_like sc_l_like rfl (d_l_like1 (a_l_like := a_l_like) T (H_l_whole := k_l_whole) (H_l_like := k_l_like0)) r_l_like1, PySem.W.mg_of X G A_l_like, K_l_like, b_l_like, F_l_like⟩
  have k_l_like := k_l_like1
  have k_l_kin : ClX P w K mg base 1 "_law_kin" "_law_e" (c_l_kin C_NotUsable) a_l_kin _ := ⟨fn_okX (fun _ _ h => h.1) F_l_kin sc_l_kin (dx_l_kin T) (r_l_kin C_NotUsable), PySem.W.mg_of X G A_l_kin, K_l_kin, b_l_kin⟩
  have k_l_two : Cl P w K mg base 6 "_law_two" s_l_two ["_law_deed", "_law_left", "_law_right", "_law_named"] 4 (c_l_two C_NotUsable) a_l_two _ := ⟨fn_ok F_l_two sc_l_two rfl (d_l_two T (H_is_place := k_is_place) (H_plus := k_plus) (H_minus := k_minus) (H_times := k_times) (H_over := k_over) (H_is_less := k_is_less) (H_is_shapes := k_is_shapes) (H_is_table := k_is_table) (HX_l_kin := k_l_kin)) (r_l_two C_NotUsable), PySem.W.mg_of X G A_l_two, K_l_two, b_l_two, F_l_two⟩
  have k_l_single : Cl P w K mg base 5 "_law_single" s_l_single ["_law_deed", "_law_value_here", "_law_named"] 3 (c_l_single C_NotUsable) a_l_single _ := ⟨fn_ok F_l_single sc_l_single rfl (d_l_single T (H_place_letter := k_place_letter) (H_is_integer := k_is_integer) (H_is_quotient := k_is_quotient) (H_is_positive := k_is_positive) (H_side_after := k_side_after) (H_side_opposite := k_side_opposite) (HX_l_kin := k_l_kin)) (r_l_single C_NotUsable), PySem.W.mg_of X G A_l_single, K_l_single, b_l_single, F_l_single⟩
  have k_l_all_of : Cl P w K mg base 3 "_law_all_of" s_l_all_of ["_law_count", "_law_value_here", "_law_least"] 3 c_l_all_of a_l_all_of _ := ⟨fn_ok F_l_all_of sc_l_all_of rfl (d_l_all_of T (H_l_quotient := k_l_quotient) ) r_l_all_of, PySem.W.mg_of X G A_l_all_of, K_l_all_of, b_l_all_of, F_l_all_of⟩
  have k_l_reckoned : Cl P w K mg base 4 "_law_reckoned" s_l_reckoned ["_law_deed", "_law_left", "_law_right", "_law_told"] 4 c_l_reckoned a_l_reckoned _ := ⟨fn_ok F_l_reckoned sc_l_reckoned rfl (d_l_reckoned T (H_l_like := k_l_like) (H_l_quotient := k_l_quotient) ) r_l_reckoned, PySem.W.mg_of X G A_l_reckoned, K_l_reckoned, b_l_reckoned, F_l_reckoned⟩
  have k_l_pair : Cl P w K mg base 7 "_law_pair" s_l_pair ["_law_deed", "_law_left", "_law_right", "_law_named"] 4 (c_l_pair C_NotUsable) a_l_pair _ := ⟨fn_ok F_l_pair sc_l_pair rfl (d_l_pair T (H_l_two := k_l_two) (H_l_reckoned := k_l_reckoned) (H_l_like := k_l_like) (H_l_quotient := k_l_quotient) (H_l_whole := k_l_whole) (H_l_all_of := k_l_all_of) ) (r_l_pair C_NotUsable), PySem.W.mg_of X G A_l_pair, K_l_pair, b_l_pair, F_l_pair⟩
  have k_l_alone : Cl P w K mg base 6 "_law_alone" s_l_alone ["_law_value_here", "_law_named"] 2 (c_l_alone C_NotUsable) a_l_alone _ := ⟨fn_ok F_l_alone sc_l_alone rfl (d_l_alone T (H_l_whole := k_l_whole) (H_l_quotient := k_l_quotient) (H_l_like := k_l_like) (H_l_single := k_l_single) ) (r_l_alone C_NotUsable), PySem.W.mg_of X G A_l_alone, K_l_alone, b_l_alone, F_l_alone⟩
  have k_l_papers : Cl P w K mg base 3 "_law_papers" s_l_papers ["_law_first", "_law_second"] 2 c_l_papers a_l_papers _ := ⟨f_l_papers T U F_l_papers (f_l_kinV T F_l_kin) (PySem.W.mg_of X G A_l_kin) K_l_kin b_l_kin, PySem.W.mg_of X G A_l_papers, K_l_papers, b_l_papers, F_l_papers⟩
  have k_l_errors : Cl P w K mg base 3 "_law_errors" s_l_errors ["_law_first", "_law_second"] 2 c_l_errors a_l_errors _ := ⟨f_l_errors T U F_l_errors, PySem.W.mg_of X G A_l_errors, K_l_errors, b_l_errors, F_l_errors⟩
  have k_l_long : Cl P w K mg base 3 "_law_long" s_l_long ["_law_pool_here"] 1 c_l_long a_l_long _ := ⟨fn_ok F_l_long sc_l_long rfl (d_l_long T (H_l_low := k_l_low) (H_l_take := k_l_take) ) r_l_long, PySem.W.mg_of X G A_l_long, K_l_long, b_l_long, F_l_long⟩
  have k_l_row : Cl P w K mg base 5 "_law_row" s_l_row ["_law_pool_here"] 1 c_l_row a_l_row _ := ⟨fn_ok F_l_row sc_l_row rfl (d_l_row T (H_l_take := k_l_take) (H_l_value := k_l_value) (H_l_low := k_l_low) ) r_l_row, PySem.W.mg_of X G A_l_row, K_l_row, b_l_row, F_l_row⟩
  exact f_law F_law (f_l_pool T F_l_pool) (PySem.W.mg_of X G A_l_pool) K_l_pool b_l_pool (d_law T (H_l_row := k_l_row) (H_l_take := k_l_take) (H_l_value := k_l_value) (H_l_small := k_l_small) (H_l_long := k_l_long) (H_l_papers := k_l_papers) (H_l_errors := k_l_errors) (H_l_alone := k_l_alone) (H_l_pair := k_l_pair))
theorem walk {l : PySem.W.OpenLaw} {q : Program} {loose : List Str} {XP : (Str → Option Value) → Heap → Prop} {YP : World → Heap → Prop} {d : DefRec} {K : Params → PySem.W.Frag} (hn : l.most = some 63) (hdf : d.params.defaults = [])
    (hY : ∀ (w : World) (h : Heap), YP w h → (K w.params).In h)
    (F : ∀ (w : World) (mg : Str → Option Value) (fa : Addr) (h : Heap), (K w.params).In h → h.Ns mainGlobals mg → mg d.name = some (.ref fa) →
      ∃ fd : FuncData, (∀ (s : Shared) (u : Value), BindsTo s fd ⟨[u], []⟩ [("_law_script", u)]) ∧ ∀ base : Heap, (K w.params).In base → base.Ns mainGlobals mg → FnOk l.prog w (K w.params) mg base (L2N.CX l.prog w) 8 fa fd ["_law_script"] (spLaw (K w.params))) :
    PySem.W.WalkO q loose XP YP l.row.toRowW d [] (fun f vs => PySem.call f vs) :=
  L2.walk_of (n := 63) (k := 8) (x := "_law_script") (CX := fun w => L2N.CX l.prog w) (sp := fun w => spLaw (K w.params)) hn (by decide) hdf ⟨rfl, by decide, by decide⟩ hY F (fun _ _ a ns hl _ hS => ⟨a, ns, rfl, hS, fun _ => rfl⟩) fun _ _ _ _ _ h => (by obtain ⟨_, _, _, _, _, _, _, _, _, _, _, _, z⟩ := h; exact z)
end K00
-- K00y
set_option Elab.async false
set_option linter.all false
open PySem PySem.W PyProof.Rows in
set_option maxRecDepth 100000 in
set_option maxHeartbeats 0 in
theorem PySem.Challenge.cw_hungwall_k00_kinds_quotients_places_holds : PySem.Challenge.rw_hungwall_k00_kinds_quotients_places.Holds := by
  w_on; o_law; k_head; (case hw => w_witness2)
  k_fill
  refine K00.walk (l := PySem.Challenge.rw_hungwall_k00_kinds_quotients_places) rfl rfl (fun w h Y => PySem.W.kIn_of Y) ?F
  case F =>
    intro w mg fa h KX G hmg
    refine' K00.all_mk KX G hmg ?spec ?takes ?aG ?u_CHUNK ?u_CHUNK_FIGURES ?u_LETTERS ?z_ValueError ?z_abs ?z_all ?z_bool ?z_divmod ?z_int ?z_isinstance ?z_len ?z_list ?z_max ?z_range ?z_reversed ?z_str ?z_tuple ?a_HangError ?i_HangError ?t_HangError ?a_PaperError ?i_PaperError ?t_PaperError ?a_PlanError ?i_PlanError ?t_PlanError ?a_LiveError ?i_LiveError ?t_LiveError ?a_TextError ?i_TextError ?t_TextError ?a_InvalidPaper ?i_InvalidPaper ?t_InvalidPaper ?a_NotUsable ?i_NotUsable ?t_NotUsable ?a_Unfit ?i_Unfit ?t_Unfit ?a_InvalidEvent ?i_InvalidEvent ?t_InvalidEvent ?a_NothingToUndo ?i_NothingToUndo ?t_NothingToUndo ?a_InvalidSketch ?i_InvalidSketch ?t_InvalidSketch ?a_InvalidText ?i_InvalidText ?t_InvalidText ?xL_InvalidPaper ?xM_InvalidPaper ?sa_InvalidPaper ?ga_InvalidPaper ?gg_InvalidPaper ?gc_InvalidPaper ?mo_InvalidPaper ?kC_InvalidPaper ?eC_InvalidPaper ?hC_InvalidPaper ?n_InvalidPaper_word ?n_InvalidPaper_at ?fi_InvalidPaper ?ft_InvalidPaper ?fl_InvalidPaper ?fc_InvalidPaper ?fk_InvalidPaper ?xL_NotUsable ?xM_NotUsable ?sa_NotUsable ?ga_NotUsable ?gg_NotUsable ?gc_NotUsable ?mo_NotUsable ?kC_NotUsable ?eC_NotUsable ?hC_NotUsable ?n_NotUsable_word ?n_NotUsable_at ?fi_NotUsable ?ft_NotUsable ?fl_NotUsable ?fc_NotUsable ?fk_NotUsable ?xL_Unfit ?xM_Unfit ?sa_Unfit ?ga_Unfit ?gg_Unfit ?gc_Unfit ?mo_Unfit ?kC_Unfit ?eC_Unfit ?hC_Unfit ?n_Unfit_barring ?fi_Unfit ?ft_Unfit ?fl_Unfit ?fc_Unfit ?fk_Unfit ?xL_InvalidEvent ?xM_InvalidEvent ?sa_InvalidEvent ?ga_InvalidEvent ?gg_InvalidEvent ?gc_InvalidEvent ?mo_InvalidEvent ?kC_InvalidEvent ?eC_InvalidEvent ?hC_InvalidEvent ?n_InvalidEvent_event ?n_InvalidEvent_reason ?fi_InvalidEvent ?ft_InvalidEvent ?fl_InvalidEvent ?fc_InvalidEvent ?fk_InvalidEvent ?xL_NothingToUndo ?xM_NothingToUndo ?sa_NothingToUndo ?ga_NothingToUndo ?gg_NothingToUndo ?gc_NothingToUndo ?mo_NothingToUndo ?kC_NothingToUndo ?eC_NothingToUndo ?hC_NothingToUndo ?n_NothingToUndo_steps ?fi_NothingToUndo ?ft_NothingToUndo ?fl_NothingToUndo ?fc_NothingToUndo ?fk_NothingToUndo ?xL_InvalidSketch ?xM_InvalidSketch ?sa_InvalidSketch ?ga_InvalidSketch ?gg_InvalidSketch ?gc_InvalidSketch ?mo_InvalidSketch ?kC_InvalidSketch ?eC_InvalidSketch ?hC_InvalidSketch ?n_InvalidSketch_word ?n_InvalidSketch_at ?fi_InvalidSketch ?ft_InvalidSketch ?fl_InvalidSketch ?fc_InvalidSketch ?fk_InvalidSketch ?xL_InvalidText ?xM_InvalidText ?sa_InvalidText ?ga_InvalidText ?gg_InvalidText ?gc_InvalidText ?mo_InvalidText ?kC_InvalidText ?eC_InvalidText ?hC_InvalidText ?n_InvalidText_line ?n_InvalidText_field ?fi_InvalidText ?ft_InvalidText ?fl_InvalidText ?fc_InvalidText ?fk_InvalidText ?sC ?s_InvalidPaper_PaperError ?d_InvalidPaper_PaperError ?s_InvalidPaper_PlanError ?d_InvalidPaper_PlanError ?s_InvalidPaper_HangError ?d_InvalidPaper_HangError ?s_InvalidPaper_ValueError ?s_InvalidPaper_TextError ?d_InvalidPaper_TextError ?s_InvalidSketch_PaperError ?d_InvalidSketch_PaperError ?s_InvalidSketch_PlanError ?d_InvalidSketch_PlanError ?s_InvalidSketch_TextError ?d_InvalidSketch_TextError ?s_InvalidSketch_HangError ?d_InvalidSketch_HangError ?s_InvalidSketch_InvalidText ?d_InvalidSketch_InvalidText ?s_Unfit_PlanError ?d_Unfit_PlanError ?s_Unfit_NotUsable ?d_Unfit_NotUsable ?s_Unfit_HangError ?d_Unfit_HangError ?s_Unfit_ValueError ?s_Unfit_PaperError ?d_Unfit_PaperError ?s_InvalidEvent_LiveError ?d_InvalidEvent_LiveError ?s_InvalidEvent_PlanError ?d_InvalidEvent_PlanError ?s_InvalidEvent_NothingToUndo ?d_InvalidEvent_NothingToUndo ?s_InvalidEvent_HangError ?d_InvalidEvent_HangError ?s_InvalidEvent_ValueError ?s_InvalidEvent_PaperError ?d_InvalidEvent_PaperError ?s_NothingToUndo_LiveError ?d_NothingToUndo_LiveError ?s_NothingToUndo_InvalidEvent ?d_NothingToUndo_InvalidEvent ?s_NothingToUndo_HangError ?d_NothingToUndo_HangError ?s_NothingToUndo_ValueError ?s_NothingToUndo_PaperError ?d_NothingToUndo_PaperError ?s_InvalidText_TextError ?d_InvalidText_TextError ?s_InvalidText_InvalidSketch ?d_InvalidText_InvalidSketch ?s_InvalidText_LiveError ?d_InvalidText_LiveError ?s_InvalidText_HangError ?d_InvalidText_HangError ?s_InvalidText_ValueError ?s_InvalidText_PaperError ?d_InvalidText_PaperError ?s_NotUsable_PlanError ?d_NotUsable_PlanError ?s_NotUsable_HangError ?d_NotUsable_HangError ?s_NotUsable_ValueError ?s_NotUsable_PaperError ?d_NotUsable_PaperError ?s_NotUsable_LiveError ?d_NotUsable_LiveError ?s_NotUsable_TextError ?d_NotUsable_TextError ?s_NotUsable_Unfit ?d_NotUsable_Unfit ?A_need ?L_need ?C_need ?K_need ?A_is_integer ?L_is_integer ?C_is_integer ?K_is_integer ?A_is_number ?L_is_number ?C_is_number ?K_is_number ?A_is_quotient ?L_is_quotient ?C_is_quotient ?K_is_quotient ?A_is_positive ?L_is_positive ?C_is_positive ?K_is_positive ?A_is_row ?L_is_row ?C_is_row ?K_is_row ?A_is_shape_row ?L_is_shape_row ?C_is_shape_row ?K_is_shape_row ?A_is_shapes ?L_is_shapes ?C_is_shapes ?K_is_shapes ?A_is_table ?L_is_table ?C_is_table ?K_is_table ?A_is_side ?L_is_side ?C_is_side ?K_is_side ?A_is_picture ?L_is_picture ?C_is_picture ?K_is_picture ?A_side_after ?L_side_after ?C_side_after ?K_side_after ?A_side_opposite ?L_side_opposite ?C_side_opposite ?K_side_opposite ?A_is_place_among ?L_is_place_among ?C_is_place_among ?K_is_place_among ?A_is_place ?L_is_place ?C_is_place ?K_is_place ?A_decimal ?L_decimal ?C_decimal ?K_decimal ?A_place_letter ?L_place_letter ?C_place_letter ?K_place_letter ?A_reduced ?L_reduced ?C_reduced ?K_reduced ?A_sum_of_two ?L_sum_of_two ?C_sum_of_two ?K_sum_of_two ?A_product_of_two ?L_product_of_two ?C_product_of_two ?K_product_of_two ?A_difference_of_two ?L_difference_of_two ?C_difference_of_two ?K_difference_of_two ?A_ratio_of_two ?L_ratio_of_two ?C_ratio_of_two ?K_ratio_of_two ?A_lies_below ?L_lies_below ?C_lies_below ?K_lies_below ?A_need_two ?L_need_two ?C_need_two ?K_need_two ?A_plus ?L_plus ?C_plus ?K_plus ?A_minus ?L_minus ?C_minus ?K_minus ?A_times ?L_times ?C_times ?K_times ?A_over ?L_over ?C_over ?K_over ?A_is_less ?L_is_less ?C_is_less ?K_is_less ?A_l_mixed ?L_l_mixed ?C_l_mixed ?K_l_mixed ?A_l_pool ?L_l_pool ?C_l_pool ?K_l_pool ?A_l_take ?L_l_take ?C_l_take ?K_l_take ?A_l_whole ?L_l_whole ?C_l_whole ?K_l_whole ?A_l_common ?L_l_common ?C_l_common ?K_l_common ?A_l_low ?L_l_low ?C_l_low ?K_l_low ?A_l_quotient ?L_l_quotient ?C_l_quotient ?K_l_quotient ?A_l_small ?L_l_small ?C_l_small ?K_l_small ?A_l_great ?L_l_great ?C_l_great ?K_l_great ?A_l_value ?L_l_value ?C_l_value ?K_l_value ?A_l_like ?L_l_like ?C_l_like ?K_l_like ?A_l_kin ?L_l_kin ?C_l_kin ?K_l_kin ?A_l_two ?L_l_two ?C_l_two ?K_l_two ?A_l_single ?L_l_single ?C_l_single ?K_l_single ?A_l_all_of ?L_l_all_of ?C_l_all_of ?K_l_all_of ?A_l_reckoned ?L_l_reckoned ?C_l_reckoned ?K_l_reckoned ?A_l_pair ?L_l_pair ?C_l_pair ?K_l_pair ?A_l_alone ?L_l_alone ?C_l_alone ?K_l_alone ?A_l_papers ?L_l_papers ?C_l_papers ?K_l_papers ?A_l_errors ?L_l_errors ?C_l_errors ?K_l_errors ?A_l_long ?L_l_long ?C_l_long ?K_l_long ?A_l_row ?L_l_row ?C_l_row ?K_l_row ?A_law ?L_law ?C_law ?K_law
    (case spec => k_is)
    (case takes => k_is)
    (case aG => k_is)
    (case u_CHUNK => k_is)
    (case u_CHUNK_FIGURES => k_is)
    (case u_LETTERS => k_is)
    (case z_ValueError => k_is)
    (case z_abs => k_is)
    (case z_all => k_is)
    (case z_bool => k_is)
    (case z_divmod => k_is)
    (case z_int => k_is)
    (case z_isinstance => k_is)
    (case z_len => k_is)
    (case z_list => k_is)
    (case z_max => k_is)
    (case z_range => k_is)
    (case z_reversed => k_is)
    (case z_str => k_is)
    (case z_tuple => k_is)
    (case a_HangError => k_is)
    (case i_HangError => k_is)
    (case t_HangError => k_is)
    (case a_PaperError => k_is)
    (case i_PaperError => k_is)
    (case t_PaperError => k_is)
    (case a_PlanError => k_is)
    (case i_PlanError => k_is)
    (case t_PlanError => k_is)
    (case a_LiveError => k_is)
    (case i_LiveError => k_is)
    (case t_LiveError => k_is)
    (case a_TextError => k_is)
    (case i_TextError => k_is)
    (case t_TextError => k_is)
    (case a_InvalidPaper => k_is)
    (case i_InvalidPaper => k_is)
    (case t_InvalidPaper => k_is)
    (case a_NotUsable => k_is)
    (case i_NotUsable => k_is)
    (case t_NotUsable => k_is)
    (case a_Unfit => k_is)
    (case i_Unfit => k_is)
    (case t_Unfit => k_is)
    (case a_InvalidEvent => k_is)
    (case i_InvalidEvent => k_is)
    (case t_InvalidEvent => k_is)
    (case a_NothingToUndo => k_is)
    (case i_NothingToUndo => k_is)
    (case t_NothingToUndo => k_is)
    (case a_InvalidSketch => k_is)
    (case i_InvalidSketch => k_is)
    (case t_InvalidSketch => k_is)
    (case a_InvalidText => k_is)
    (case i_InvalidText => k_is)
    (case t_InvalidText => k_is)
    (case xL_InvalidPaper => k_is)
    (case xM_InvalidPaper => decide +kernel)
    (case sa_InvalidPaper => k_is)
    (case ga_InvalidPaper => k_is)
    (case gg_InvalidPaper => k_is)
    (case gc_InvalidPaper => k_is)
    (case mo_InvalidPaper => k_is)
    (case kC_InvalidPaper => k_is)
    (case eC_InvalidPaper => k_is)
    (case hC_InvalidPaper => k_is)
    (case n_InvalidPaper_word => k_is)
    (case n_InvalidPaper_at => k_is)
    (case fi_InvalidPaper => k_is)
    (case ft_InvalidPaper => k_is)
    (case fl_InvalidPaper => k_is)
    (case fc_InvalidPaper => k_is)
    (case fk_InvalidPaper => k_is)
    (case xL_NotUsable => k_is)
    (case xM_NotUsable => decide +kernel)
    (case sa_NotUsable => k_is)
    (case ga_NotUsable => k_is)
    (case gg_NotUsable => k_is)
    (case gc_NotUsable => k_is)
    (case mo_NotUsable => k_is)
    (case kC_NotUsable => k_is)
    (case eC_NotUsable => k_is)
    (case hC_NotUsable => k_is)
    (case n_NotUsable_word => k_is)
    (case n_NotUsable_at => k_is)
    (case fi_NotUsable => k_is)
    (case ft_NotUsable => k_is)
    (case fl_NotUsable => k_is)
    (case fc_NotUsable => k_is)
    (case fk_NotUsable => k_is)
    (case xL_Unfit => k_is)
    (case xM_Unfit => decide +kernel)
    (case sa_Unfit => k_is)
    (case ga_Unfit => k_is)
    (case gg_Unfit => k_is)
    (case gc_Unfit => k_is)
    (case mo_Unfit => k_is)
    (case kC_Unfit => k_is)
    (case eC_Unfit => k_is)
    (case hC_Unfit => k_is)
    (case n_Unfit_barring => k_is)
    (case fi_Unfit => k_is)
    (case ft_Unfit => k_is)
    (case fl_Unfit => k_is)
    (case fc_Unfit => k_is)
    (case fk_Unfit => k_is)
    (case xL_InvalidEvent => k_is)
    (case xM_InvalidEvent => decide +kernel)
    (case sa_InvalidEvent => k_is)
    (case ga_InvalidEvent => k_is)
    (case gg_InvalidEvent => k_is)
    (case gc_InvalidEvent => k_is)
    (case mo_InvalidEvent => k_is)
    (case kC_InvalidEvent => k_is)
    (case eC_InvalidEvent => k_is)
    (case hC_InvalidEvent => k_is)
    (case n_InvalidEvent_event => k_is)
    (case n_InvalidEvent_reason => k_is)
    (case fi_InvalidEvent => k_is)
    (case ft_InvalidEvent => k_is)
    (case fl_InvalidEvent => k_is)
    (case fc_InvalidEvent => k_is)
    (case fk_InvalidEvent => k_is)
    (case xL_NothingToUndo => k_is)
    (case xM_NothingToUndo => decide +kernel)
    (case sa_NothingToUndo => k_is)
    (case ga_NothingToUndo => k_is)
    (case gg_NothingToUndo => k_is)
    (case gc_NothingToUndo => k_is)
    (case mo_NothingToUndo => k_is)
    (case kC_NothingToUndo => k_is)
    (case eC_NothingToUndo => k_is)
    (case hC_NothingToUndo => k_is)
    (case n_NothingToUndo_steps => k_is)
    (case fi_NothingToUndo => k_is)
    (case ft_NothingToUndo => k_is)
    (case fl_NothingToUndo => k_is)
    (case fc_NothingToUndo => k_is)
    (case fk_NothingToUndo => k_is)
    (case xL_InvalidSketch => k_is)
    (case xM_InvalidSketch => decide +kernel)
    (case sa_InvalidSketch => k_is)
    (case ga_InvalidSketch => k_is)
    (case gg_InvalidSketch => k_is)
    (case gc_InvalidSketch => k_is)
    (case mo_InvalidSketch => k_is)
    (case kC_InvalidSketch => k_is)
    (case eC_InvalidSketch => k_is)
    (case hC_InvalidSketch => k_is)
    (case n_InvalidSketch_word => k_is)
    (case n_InvalidSketch_at => k_is)
    (case fi_InvalidSketch => k_is)
    (case ft_InvalidSketch => k_is)
    (case fl_InvalidSketch => k_is)
    (case fc_InvalidSketch => k_is)
    (case fk_InvalidSketch => k_is)
    (case xL_InvalidText => k_is)
    (case xM_InvalidText => decide +kernel)
    (case sa_InvalidText => k_is)
    (case ga_InvalidText => k_is)
    (case gg_InvalidText => k_is)
    (case gc_InvalidText => k_is)
    (case mo_InvalidText => k_is)
    (case kC_InvalidText => k_is)
    (case eC_InvalidText => k_is)
    (case hC_InvalidText => k_is)
    (case n_InvalidText_line => k_is)
    (case n_InvalidText_field => k_is)
    (case fi_InvalidText => k_is)
    (case ft_InvalidText => k_is)
    (case fl_InvalidText => k_is)
    (case fc_InvalidText => k_is)
    (case fk_InvalidText => k_is)
    (case sC => first | rfl | k_is)
    (case s_InvalidPaper_PaperError => first | rfl | k_is)
    (case d_InvalidPaper_PaperError => first | rfl | decide +kernel)
    (case s_InvalidPaper_PlanError => first | rfl | k_is)
    (case d_InvalidPaper_PlanError => first | rfl | decide +kernel)
    (case s_InvalidPaper_HangError => first | rfl | k_is)
    (case d_InvalidPaper_HangError => first | rfl | decide +kernel)
    (case s_InvalidPaper_ValueError => first | rfl | k_is)
    (case s_InvalidPaper_TextError => first | rfl | k_is)
    (case d_InvalidPaper_TextError => first | rfl | decide +kernel)
    (case s_InvalidSketch_PaperError => first | rfl | k_is)
    (case d_InvalidSketch_PaperError => first | rfl | decide +kernel)
    (case s_InvalidSketch_PlanError => first | rfl | k_is)
    (case d_InvalidSketch_PlanError => first | rfl | decide +kernel)
    (case s_InvalidSketch_TextError => first | rfl | k_is)
    (case d_InvalidSketch_TextError => first | rfl | decide +kernel)
    (case s_InvalidSketch_HangError => first | rfl | k_is)
    (case d_InvalidSketch_HangError => first | rfl | decide +kernel)
    (case s_InvalidSketch_InvalidText => first | rfl | k_is)
    (case d_InvalidSketch_InvalidText => first | rfl | decide +kernel)
    (case s_Unfit_PlanError => first | rfl | k_is)
    (case d_Unfit_PlanError => first | rfl | decide +kernel)
    (case s_Unfit_NotUsable => first | rfl | k_is)
    (case d_Unfit_NotUsable => first | rfl | decide +kernel)
    (case s_Unfit_HangError => first | rfl | k_is)
    (case d_Unfit_HangError => first | rfl | decide +kernel)
    (case s_Unfit_ValueError => first | rfl | k_is)
    (case s_Unfit_PaperError => first | rfl | k_is)
    (case d_Unfit_PaperError => first | rfl | decide +kernel)
    (case s_InvalidEvent_LiveError => first | rfl | k_is)
    (case d_InvalidEvent_LiveError => first | rfl | decide +kernel)
    (case s_InvalidEvent_PlanError => first | rfl | k_is)
    (case d_InvalidEvent_PlanError => first | rfl | decide +kernel)
    (case s_InvalidEvent_NothingToUndo => first | rfl | k_is)
    (case d_InvalidEvent_NothingToUndo => first | rfl | decide +kernel)
    (case s_InvalidEvent_HangError => first | rfl | k_is)
    (case d_InvalidEvent_HangError => first | rfl | decide +kernel)
    (case s_InvalidEvent_ValueError => first | rfl | k_is)
    (case s_InvalidEvent_PaperError => first | rfl | k_is)
    (case d_InvalidEvent_PaperError => first | rfl | decide +kernel)
    (case s_NothingToUndo_LiveError => first | rfl | k_is)
    (case d_NothingToUndo_LiveError => first | rfl | decide +kernel)
    (case s_NothingToUndo_InvalidEvent => first | rfl | k_is)
    (case d_NothingToUndo_InvalidEvent => first | rfl | decide +kernel)
    (case s_NothingToUndo_HangError => first | rfl | k_is)
    (case d_NothingToUndo_HangError => first | rfl | decide +kernel)
    (case s_NothingToUndo_ValueError => first | rfl | k_is)
    (case s_NothingToUndo_PaperError => first | rfl | k_is)
    (case d_NothingToUndo_PaperError => first | rfl | decide +kernel)
    (case s_InvalidText_TextError => first | rfl | k_is)
    (case d_InvalidText_TextError => first | rfl | decide +kernel)
    (case s_InvalidText_InvalidSketch => first | rfl | k_is)
    (case d_InvalidText_InvalidSketch => first | rfl | decide +kernel)
    (case s_InvalidText_LiveError => first | rfl | k_is)
    (case d_InvalidText_LiveError => first | rfl | decide +kernel)
    (case s_InvalidText_HangError => first | rfl | k_is)
    (case d_InvalidText_HangError => first | rfl | decide +kernel)
    (case s_InvalidText_ValueError => first | rfl | k_is)
    (case s_InvalidText_PaperError => first | rfl | k_is)
    (case d_InvalidText_PaperError => first | rfl | decide +kernel)
    (case s_NotUsable_PlanError => first | rfl | k_is)
    (case d_NotUsable_PlanError => first | rfl | decide +kernel)
    (case s_NotUsable_HangError => first | rfl | k_is)
    (case d_NotUsable_HangError => first | rfl | decide +kernel)
    (case s_NotUsable_ValueError => first | rfl | k_is)
    (case s_NotUsable_PaperError => first | rfl | k_is)
    (case d_NotUsable_PaperError => first | rfl | decide +kernel)
    (case s_NotUsable_LiveError => first | rfl | k_is)
    (case d_NotUsable_LiveError => first | rfl | decide +kernel)
    (case s_NotUsable_TextError => first | rfl | k_is)
    (case d_NotUsable_TextError => first | rfl | decide +kernel)
    (case s_NotUsable_Unfit => first | rfl | k_is)
    (case d_NotUsable_Unfit => first | rfl | decide +kernel)
    (case A_need => k_is)
    (case L_need => k_is)
    (case C_need => k_is)
    (case K_need => k_is)
    (case A_is_integer => k_is)
    (case L_is_integer => k_is)
    (case C_is_integer => k_is)
    (case K_is_integer => k_is)
    (case A_is_number => k_is)
    (case L_is_number => k_is)
    (case C_is_number => k_is)
    (case K_is_number => k_is)
    (case A_is_quotient => k_is)
    (case L_is_quotient => k_is)
    (case C_is_quotient => k_is)
    (case K_is_quotient => k_is)
    (case A_is_positive => k_is)
    (case L_is_positive => k_is)
    (case C_is_positive => k_is)
    (case K_is_positive => k_is)
    (case A_is_row => k_is)
    (case L_is_row => k_is)
    (case C_is_row => k_is)
    (case K_is_row => k_is)
    (case A_is_shape_row => k_is)
    (case L_is_shape_row => k_is)
    (case C_is_shape_row => k_is)
    (case K_is_shape_row => k_is)
    (case A_is_shapes => k_is)
    (case L_is_shapes => k_is)
    (case C_is_shapes => k_is)
    (case K_is_shapes => k_is)
    (case A_is_table => k_is)
    (case L_is_table => k_is)
    (case C_is_table => k_is)
    (case K_is_table => k_is)
    (case A_is_side => k_is)
    (case L_is_side => k_is)
    (case C_is_side => k_is)
    (case K_is_side => k_is)
    (case A_is_picture => k_is)
    (case L_is_picture => k_is)
    (case C_is_picture => k_is)
    (case K_is_picture => k_is)
    (case A_side_after => k_is)
    (case L_side_after => k_is)
    (case C_side_after => k_is)
    (case K_side_after => k_is)
    (case A_side_opposite => k_is)
    (case L_side_opposite => k_is)
    (case C_side_opposite => k_is)
    (case K_side_opposite => k_is)
    (case A_is_place_among => k_is)
    (case L_is_place_among => k_is)
    (case C_is_place_among => k_is)
    (case K_is_place_among => k_is)
    (case A_is_place => k_is)
    (case L_is_place => k_is)
    (case C_is_place => k_is)
    (case K_is_place => k_is)
    (case A_decimal => k_is)
    (case L_decimal => k_is)
    (case C_decimal => k_is)
    (case K_decimal => k_is)
    (case A_place_letter => k_is)
    (case L_place_letter => k_is)
    (case C_place_letter => k_is)
    (case K_place_letter => k_is)
    (case A_reduced => k_is)
    (case L_reduced => k_is)
    (case C_reduced => k_is)
    (case K_reduced => k_is)
    (case A_sum_of_two => k_is)
    (case L_sum_of_two => k_is)
    (case C_sum_of_two => k_is)
    (case K_sum_of_two => k_is)
    (case A_product_of_two => k_is)
    (case L_product_of_two => k_is)
    (case C_product_of_two => k_is)
    (case K_product_of_two => k_is)
    (case A_difference_of_two => k_is)
    (case L_difference_of_two => k_is)
    (case C_difference_of_two => k_is)
    (case K_difference_of_two => k_is)
    (case A_ratio_of_two => k_is)
    (case L_ratio_of_two => k_is)
    (case C_ratio_of_two => k_is)
    (case K_ratio_of_two => k_is)
    (case A_lies_below => k_is)
    (case L_lies_below => k_is)
    (case C_lies_below => k_is)
    (case K_lies_below => k_is)
    (case A_need_two => k_is)
    (case L_need_two => k_is)
    (case C_need_two => k_is)
    (case K_need_two => k_is)
    (case A_plus => k_is)
    (case L_plus => k_is)
    (case C_plus => k_is)
    (case K_plus => k_is)
    (case A_minus => k_is)
    (case L_minus => k_is)
    (case C_minus => k_is)
    (case K_minus => k_is)
    (case A_times => k_is)
    (case L_times => k_is)
    (case C_times => k_is)
    (case K_times => k_is)
    (case A_over => k_is)
    (case L_over => k_is)
    (case C_over => k_is)
    (case K_over => k_is)
    (case A_is_less => k_is)
    (case L_is_less => k_is)
    (case C_is_less => k_is)
    (case K_is_less => k_is)
    (case A_l_mixed => k_is)
    (case L_l_mixed => k_is)
    (case C_l_mixed => k_is)
    (case K_l_mixed => k_is)
    (case A_l_pool => k_is)
    (case L_l_pool => k_is)
    (case C_l_pool => k_is)
    (case K_l_pool => k_is)
    (case A_l_take => k_is)
    (case L_l_take => k_is)
    (case C_l_take => k_is)
    (case K_l_take => k_is)
    (case A_l_whole => k_is)
    (case L_l_whole => k_is)
    (case C_l_whole => k_is)
    (case K_l_whole => k_is)
    (case A_l_common => k_is)
    (case L_l_common => k_is)
    (case C_l_common => k_is)
    (case K_l_common => k_is)
    (case A_l_low => k_is)
    (case L_l_low => k_is)
    (case C_l_low => k_is)
    (case K_l_low => k_is)
    (case A_l_quotient => k_is)
    (case L_l_quotient => k_is)
    (case C_l_quotient => k_is)
    (case K_l_quotient => k_is)
    (case A_l_small => k_is)
    (case L_l_small => k_is)
    (case C_l_small => k_is)
    (case K_l_small => k_is)
    (case A_l_great => k_is)
    (case L_l_great => k_is)
    (case C_l_great => k_is)
    (case K_l_great => k_is)
    (case A_l_value => k_is)
    (case L_l_value => k_is)
    (case C_l_value => k_is)
    (case K_l_value => k_is)
    (case A_l_like => k_is)
    (case L_l_like => k_is)
    (case C_l_like => k_is)
    (case K_l_like => k_is)
    (case A_l_kin => k_is)
    (case L_l_kin => k_is)
    (case C_l_kin => k_is)
    (case K_l_kin => k_is)
    (case A_l_two => k_is)
    (case L_l_two => k_is)
    (case C_l_two => k_is)
    (case K_l_two => k_is)
    (case A_l_single => k_is)
    (case L_l_single => k_is)
    (case C_l_single => k_is)
    (case K_l_single => k_is)
    (case A_l_all_of => k_is)
    (case L_l_all_of => k_is)
    (case C_l_all_of => k_is)
    (case K_l_all_of => k_is)
    (case A_l_reckoned => k_is)
    (case L_l_reckoned => k_is)
    (case C_l_reckoned => k_is)
    (case K_l_reckoned => k_is)
    (case A_l_pair => k_is)
    (case L_l_pair => k_is)
    (case C_l_pair => k_is)
    (case K_l_pair => k_is)
    (case A_l_alone => k_is)
    (case L_l_alone => k_is)
    (case C_l_alone => k_is)
    (case K_l_alone => k_is)
    (case A_l_papers => k_is)
    (case L_l_papers => k_is)
    (case C_l_papers => k_is)
    (case K_l_papers => k_is)
    (case A_l_errors => k_is)
    (case L_l_errors => k_is)
    (case C_l_errors => k_is)
    (case K_l_errors => k_is)
    (case A_l_long => k_is)
    (case L_l_long => k_is)
    (case C_l_long => k_is)
    (case K_l_long => k_is)
    (case A_l_row => k_is)
    (case L_l_row => k_is)
    (case C_l_row => k_is)
    (case K_l_row => k_is)
    (case A_law => k_is)
    (case L_law => k_is)
    (case C_law => k_is)
    (case K_law => k_is)
