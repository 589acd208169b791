import PyProof.Rows.All
import Wide.All
import OpenK.AllK
import Wide.FinOn
import HandS.ForMost
import HandS.ForExc
import HandS.ExcInit
import HandS.ExcField
import HandS.ExcIs
import HandS.Gcd
import HandS.Wide
import HandS.IsInst
import HandS.TupAny
import HandS.CallSlots
import HandS.Conv
import HandS.Evl
import HandS.HotCalls
import HandS.TryOnly
import HandS.Flow
import HandS.Zip
import HandS.Style
import HandS.Defaults
import HandS.ExcCtx
import PySem.Challenge.RW_hungwall_k01_whole_sums_and_orders
-- HwA
set_option Elab.async false
set_option linter.all false
set_option maxRecDepth 100000
set_option maxHeartbeats 2000000
namespace Hw
open PySem L2
abbrev Ex := Evl.Ex

/-! ## data over a frozen heap -/
mutual
/-- a value that is this piece of data, all of it laid in H -/
inductive Hs (K : PySem.W.Frag) (H : Hp) : V → PyData → Prop
  | non : Hs K H .non .none
  | bl (b : Bool) : Hs K H (.bl b) (.bool b)
  | int (i : Int) : Hs K H (.int i) (.int i)
  | str (x : Str) : Hs K H (.str x) (.str x)
  | lst {a : Addr} {xs : List V} {ds : List PyData} : H a = some (.lst xs) → HsA K H xs ds → Hs K H (.ref a) (.list ds)
  | tup {a : Addr} {xs : List V} {ds : List PyData} : SqT K H a xs → HsA K H xs ds → Hs K H (.ref a) (.tuple ds)
inductive HsA (K : PySem.W.Frag) (H : Hp) : List V → List PyData → Prop
  | nil : HsA K H [] []
  | cons {v : V} {vs : List V} {d : PyData} {ds : List PyData} : Hs K H v d → HsA K H vs ds → HsA K H (v :: vs) (d :: ds)
end
mutual
theorem hs_dp {K : PySem.W.Frag} {H : Hp} : ∀ (d : PyData) (v : V), Hs K H v d → Dp K H v d
  | .none, _, h => by cases h; exact .non
  | .bool b, _, h => by cases h; exact .bl b
  | .int i, _, h => by cases h; exact .int i
  | .str x, _, h => by cases h; exact .str x
  | .list ds, _, h => by
    cases h with
    | lst hs ha => exact .lst (Evl.sq_of hs) (hs_dpA ds _ ha)
  | .tuple ds, _, h => by
    cases h with
    | tup hs ha => exact .tup hs (hs_dpA ds _ ha)
  | .dict _, _, h => by cases h
theorem hs_dpA {K : PySem.W.Frag} {H : Hp} : ∀ (ds : List PyData) (vs : List V), HsA K H vs ds → DpAll K H vs ds
  | [], _, h => by cases h; exact .nil
  | d :: ds, _, h => by
    cases h with
    | cons h1 h2 => exact .cons (hs_dp d _ h1) (hs_dpA ds _ h2)
end
mutual
theorem dpm {K : PySem.W.Frag} {H H' : Hp} (e : Ex H H') : ∀ (d : PyData) (v : V), Hs K H v d → Hs K H' v d
  | .none, _, h => by cases h; exact .non
  | .bool b, _, h => by cases h; exact .bl b
  | .int i, _, h => by cases h; exact .int i
  | .str x, _, h => by cases h; exact .str x
  | .list ds, _, h => by
    cases h with
    | lst hs ha => exact .lst (e _ _ hs) (dpmA e ds _ ha)
  | .tuple ds, _, h => by
    cases h with
    | tup hs ha => exact .tup (Evl.ex_t e hs) (dpmA e ds _ ha)
  | .dict _, _, h => by cases h
theorem dpmA {K : PySem.W.Frag} {H H' : Hp} (e : Ex H H') : ∀ (ds : List PyData) (vs : List V), HsA K H vs ds → HsA K H' vs ds
  | [], _, h => by cases h; exact .nil
  | d :: ds, _, h => by
    cases h with
    | cons h1 h2 => exact .cons (dpm e d _ h1) (dpmA e ds _ h2)
end
theorem dpA_len {K : PySem.W.Frag} {H : Hp} : ∀ {ds : List PyData} {vs : List V}, HsA K H vs ds → vs.length = ds.length
  | [], _, h => by cases h; rfl
  | d :: ds, _, h => by
    cases h with
    | cons h1 h2 => simp [dpA_len h2]
theorem dpA_get {K : PySem.W.Frag} {H : Hp} : ∀ {ds : List PyData} {vs : List V} {i : Nat} {v : V}, HsA K H vs ds → vs[i]? = some v → ∃ d, ds[i]? = some d ∧ Hs K H v d
  | [], _, _, _, h, e => by cases h; simp at e
  | d :: ds, _, 0, v, h, e => by
    cases h with
    | cons h1 h2 => simp at e; subst e; exact ⟨d, rfl, h1⟩
  | d :: ds, _, i + 1, v, h, e => by
    cases h with
    | cons h1 h2 => exact dpA_get (i := i) h2 (by simpa using e)
theorem dpA_of {K : PySem.W.Frag} {H : Hp} : ∀ {ds : List PyData} {vs : List V} {i : Nat} {d : PyData}, HsA K H vs ds → ds[i]? = some d → ∃ v, vs[i]? = some v ∧ Hs K H v d
  | [], _, _, _, h, e => by simp at e
  | d :: ds, _, 0, v, h, e => by
    cases h with
    | cons h1 h2 => simp at e; subst e; exact ⟨_, rfl, h1⟩
  | d :: ds, _, i + 1, v, h, e => by
    cases h with
    | cons h1 h2 => simpa using dpA_of (i := i) h2 (by simpa using e)
theorem dpA_app {K : PySem.W.Frag} {H : Hp} : ∀ {ds es : List PyData} {vs us : List V}, HsA K H vs ds → HsA K H us es → HsA K H (vs ++ us) (ds ++ es)
  | [], _, _, _, h, g => by cases h; exact g
  | d :: ds, _, _, _, h, g => by
    cases h with
    | cons h1 h2 => exact .cons h1 (dpA_app h2 g)
theorem dpA_drop {K : PySem.W.Frag} {H : Hp} : ∀ {n : Nat} {ds : List PyData} {vs : List V}, HsA K H vs ds → HsA K H (vs.drop n) (ds.drop n)
  | 0, _, _, h => by simpa using h
  | n + 1, [], _, h => by cases h; exact .nil
  | n + 1, d :: ds, _, h => by
    cases h with
    | cons h1 h2 => simpa using dpA_drop (n := n) h2
theorem dpA_take {K : PySem.W.Frag} {H : Hp} : ∀ {n : Nat} {ds : List PyData} {vs : List V}, HsA K H vs ds → HsA K H (vs.take n) (ds.take n)
  | 0, _, _, h => by simpa using HsA.nil
  | n + 1, [], _, h => by cases h; exact .nil
  | n + 1, d :: ds, _, h => by
    cases h with
    | cons h1 h2 => simpa using HsA.cons h1 (dpA_take (n := n) h2)
theorem dpA_set {K : PySem.W.Frag} {H : Hp} {v : V} {d : PyData} (h0 : Hs K H v d) : ∀ {i : Nat} {ds : List PyData} {vs : List V}, HsA K H vs ds → HsA K H (vs.set i v) (ds.set i d)
  | _, [], _, h => by cases h; exact .nil
  | 0, e :: ds, _, h => by
    cases h with
    | cons h1 h2 => exact .cons h0 h2
  | i + 1, e :: ds, _, h => by
    cases h with
    | cons h1 h2 => exact .cons h1 (dpA_set h0 h2)
theorem dpA_rev {K : PySem.W.Frag} {H : Hp} : ∀ {ds : List PyData} {vs : List V}, HsA K H vs ds → HsA K H vs.reverse ds.reverse
  | [], _, h => by cases h; exact .nil
  | d :: ds, _, h => by
    cases h with
    | cons h1 h2 => simpa using dpA_app (dpA_rev h2) (.cons h1 .nil)
theorem dpA_rep {K : PySem.W.Frag} {H : Hp} {ds : List PyData} {vs : List V} (h : HsA K H vs ds) : ∀ n : Nat, HsA K H (List.replicate n vs).flatten (List.replicate n ds).flatten
  | 0 => by simpa using HsA.nil
  | n + 1 => by simpa [List.replicate_succ] using dpA_app h (dpA_rep h n)
theorem dp_int {K : PySem.W.Frag} {H : Hp} {v : V} {i : Int} (h : Hs K H v (.int i)) : v = .int i := by cases h; rfl
theorem dp_bl {K : PySem.W.Frag} {H : Hp} {v : V} {b : Bool} (h : Hs K H v (.bool b)) : v = .bl b := by cases h; rfl
theorem dp_str {K : PySem.W.Frag} {H : Hp} {v : V} {z : Str} (h : Hs K H v (.str z)) : v = .str z := by cases h; rfl
theorem dp_non {K : PySem.W.Frag} {H : Hp} {v : V} (h : Hs K H v .none) : v = .non := by cases h; rfl
theorem dp_ints {K : PySem.W.Frag} {H : Hp} : ∀ {ns : List Int} {vs : List V}, HsA K H vs (ns.map PyData.int) → vs = ns.map V.int
  | [], _, h => by cases h; rfl
  | n :: ns, _, h => by
    cases h with
    | cons h1 h2 => rw [dp_int h1, dp_ints h2]; rfl
theorem dp_bools {K : PySem.W.Frag} {H : Hp} : ∀ {ns : List Bool} {vs : List V}, HsA K H vs (ns.map PyData.bool) → vs = ns.map V.bl
  | [], _, h => by cases h; rfl
  | n :: ns, _, h => by
    cases h with
    | cons h1 h2 => rw [dp_bl h1, dp_bools h2]; rfl
/-- what type a piece of data has -/
def tyD : PyData → String
  | .none => "NoneType"
  | .bool _ => "bool"
  | .int _ => "int"
  | .str _ => "str"
  | .list _ => "list"
  | .tuple _ => "tuple"
  | .dict _ => "dict"
theorem hs_ty {K : PySem.W.Frag} {H : Hp} {v : V} {d : PyData} (h : Hs K H v d) : TyX K H v (.type (tyD d)) := by
  cases h with
  | non => exact .base .non
  | bl b => exact .base (.bl b)
  | int i => exact .base (.int i)
  | str x => exact .base (.str x)
  | lst hs _ => exact .base (.lst hs)
  | tup hs _ =>
    rcases hs with (hs | ⟨o, hs⟩) | ⟨o, its, n, h1, h2, _⟩
    · exact .base (.tup hs)
    · exact .fTuple hs
    · exact .kTuple h1 h2
theorem ints_dp {K : PySem.W.Frag} {H : Hp} : ∀ (ns : List Int), HsA K H (ns.map V.int) (ns.map PyData.int)
  | [] => .nil
  | n :: ns => .cons (.int n) (ints_dp ns)

/-! ## the state told by data -/
/-- an exception of an own class: its class, its fields -/
structure XD where
  C : Addr
  fs : List (Str × PyData)
/-- what is told of a slot -/
inductive Sl where
  | un
  | val (d : PyData)
  | cell (xs : List PyData)
  | pool
  | exc (a : Addr) (c : Value) (dd : Option Addr) (x : XD)
def XIs (K : PySem.W.Frag) (F H : Hp) (c : Value) (dd : Option Addr) (x : XD) : Prop :=
  c = .ref x.C ∧ ∃ (d : Addr) (fs : List (Str × V)), dd = some d ∧ H d = some (.xd fs) ∧ fs.map (·.1) = x.fs.map (·.1) ∧ HsA K F (fs.map (·.2)) (x.fs.map (·.2))
structure Bs where
  F0 : Hp
  H0 : Hp
  M : List Addr
  pl : Option (Addr × Addr)
def plM : Option (Addr × Addr) → List Addr
  | none => []
  | some (p, l) => [p, l]
def stp (B : Bs) (F H : Hp) : Bs := ⟨F, H, plM B.pl, B.pl⟩
def PoolAt (F H : Hp) (p l : Addr) : Prop := F p = none ∧ F l = none ∧ p ≠ l ∧
  ∃ (a b c n : Int) (xs : List Int), H p = some (.lst [.ref l, .int a, .int b, .int c, .int n]) ∧ H l = some (.lst (xs.map V.int))
structure FO (B : Bs) (H F : Hp) : Prop where
  fh : Ex F H
  f0 : Ex B.F0 F
  fresh : ∀ a o, F a = some o → B.F0 a = some o ∨ B.H0 a = none
  keep : ∀ a o, B.H0 a = some o → a ∉ B.M → H a = some o
  dom : ∀ a, H a = none → B.H0 a = none
  pool : ∀ p l, B.pl = some (p, l) → PoolAt F H p l ∧ (p ∈ B.M ∨ B.H0 p = none) ∧ (l ∈ B.M ∨ B.H0 l = none)
def SlOk (K : PySem.W.Frag) (B : Bs) (H F : Hp) : Sl → Option (Option V) → Prop
  | .un, _ => True
  | .val d, x => ∃ v, x = some (some v) ∧ Hs K F v d
  | .cell ds, x => ∃ a vs, x = some (some (.ref a)) ∧ F a = none ∧ B.H0 a = none ∧ H a = some (.lst vs) ∧ HsA K F vs ds ∧ ∀ p l, B.pl = some (p, l) → a ≠ p ∧ a ≠ l
  | .pool, x => ∃ p l, B.pl = some (p, l) ∧ x = some (some (.ref p))
  | .exc a c dd xd, x => x = some (some (.ref a)) ∧ XIs K F H c dd xd
structure SO (K : PySem.W.Frag) (B : Bs) (σ : List (Option V)) (H F : Hp) (env : List Sl) : Prop where
  fo : FO B H F
  len : env.length = σ.length
  slots : ∀ (i : Nat) (s : Sl), env[i]? = some s → SlOk K B H F s σ[i]?
  apart : ∀ (i j : Nat) (xs ys : List PyData) (a : Addr), env[i]? = some (.cell xs) → env[j]? = some (.cell ys) → σ[i]? = some (some (.ref a)) → σ[j]? = some (some (.ref a)) → i = j
section
variable {K : PySem.W.Frag} {B : Bs} {σ : List (Option V)} {H F H' F' H2 F2 : Hp} {env : List Sl}
theorem FO.step (o : FO B H F) (p : FO (stp B F H) H' F') : FO B H' F' where
  fh := p.fh
  f0 := o.f0.trans p.f0
  fresh := fun a u h => by
    rcases p.fresh a u h with h | h
    · exact o.fresh a u h
    · exact .inr (o.dom a h)
  keep := fun a u h hm => by
    refine p.keep a u (o.keep a u h hm) fun hp => ?_
    cases e : B.pl with
    | none =>
      have hp : a ∈ plM B.pl := hp
      rw [e] at hp
      simp [plM] at hp
    | some q =>
      obtain ⟨p1, l1⟩ := q
      obtain ⟨_, h1, h2⟩ := o.pool p1 l1 e
      have hp : a ∈ plM B.pl := hp
      rw [e] at hp
      rcases (by simpa [plM] using hp : a = p1 ∨ a = l1) with z | z
      · subst z
        rcases h1 with z | z
        · exact hm z
        · rw [z] at h; cases h
      · subst z
        rcases h2 with z | z
        · exact hm z
        · rw [z] at h; cases h
  dom := fun a h => o.dom a (p.dom a h)
  pool := fun p1 l1 e => ⟨(p.pool p1 l1 e).1, (o.pool p1 l1 e).2⟩
theorem plM_of {p l : Addr} (e : B.pl = some (p, l)) : p ∈ plM B.pl ∧ l ∈ plM B.pl := by
  rw [e]; simp [plM]
theorem FO.refl (o : FO B H F) : FO (stp B F H) H F where
  fh := o.fh
  f0 := Evl.Ex.refl _
  fresh := fun a u h => .inl h
  keep := fun a u h _ => h
  dom := fun a h => h
  pool := fun p l e => ⟨(o.pool p l e).1, .inl (plM_of e).1, .inl (plM_of e).2⟩
theorem FO.trans (p : FO (stp B F H) H' F') (q : FO (stp B F' H') H2 F2) : FO (stp B F H) H2 F2 := FO.step (B := stp B F H) p q
theorem FO.fnone (o : FO B H F) {a : Addr} (h : H a = none) : F a = none := by
  cases e : F a with
  | none => rfl
  | some u => rw [o.fh a u e] at h; cases h
/-- a new frozen object -/
theorem FO.alloc (o : FO B H F) {p : Addr} {u : HO} (hp : H p = none) : FO (stp B F H) (upd H p u) (upd F p u) where
  fh := fun a x h => by
    by_cases e : a = p
    · subst e; rw [upd_same] at h ⊢; exact h
    · rw [upd_ne e] at h ⊢; exact o.fh a x h
  f0 := Evl.Ex.new (o.fnone hp)
  fresh := fun a x h => by
    by_cases e : a = p
    · subst e; exact .inr hp
    · rw [upd_ne e] at h; exact .inl h
  keep := fun a x h _ => by
    have h : H a = some x := h
    have e : a ≠ p := ne_of_none h hp
    rw [upd_ne e]; exact h
  dom := fun a h => by
    by_cases e : a = p
    · subst e; rw [upd_same] at h; cases h
    · rw [upd_ne e] at h; exact h
  pool := fun q l e => by
    obtain ⟨⟨f1, f2, ne, a, b, c, n, xs, h1, h2⟩, _⟩ := o.pool q l e
    refine ⟨⟨?_, ?_, ne, a, b, c, n, xs, ?_, ?_⟩, .inl (plM_of e).1, .inl (plM_of e).2⟩
    · rw [upd_ne (ne_of_none h1 hp)]; exact f1
    · rw [upd_ne (ne_of_none h2 hp)]; exact f2
    · rw [upd_ne (ne_of_none h1 hp)]; exact h1
    · rw [upd_ne (ne_of_none h2 hp)]; exact h2
/-- a new object, not frozen -/
theorem FO.lay (o : FO B H F) {p : Addr} {u : HO} (hp : H p = none) : FO (stp B F H) (upd H p u) F where
  fh := fun a x h => by
    have e : a ≠ p := ne_of_none (o.fh a x h) hp
    rw [upd_ne e]; exact o.fh a x h
  f0 := Evl.Ex.refl _
  fresh := fun a x h => .inl h
  keep := fun a x h _ => by
    have h : H a = some x := h
    have e : a ≠ p := ne_of_none h hp
    rw [upd_ne e]; exact h
  dom := fun a h => by
    by_cases e : a = p
    · subst e; rw [upd_same] at h; cases h
    · rw [upd_ne e] at h; exact h
  pool := fun q l e => by
    obtain ⟨⟨f1, f2, ne, a, b, c, n, xs, h1, h2⟩, _⟩ := o.pool q l e
    refine ⟨⟨f1, f2, ne, a, b, c, n, xs, ?_, ?_⟩, .inl (plM_of e).1, .inl (plM_of e).2⟩
    · rw [upd_ne (ne_of_none h1 hp)]; exact h1
    · rw [upd_ne (ne_of_none h2 hp)]; exact h2
theorem SO.step (o : SO K B σ H F env) (p : FO (stp B F H) H' F') : SO K B σ H' F' env where
  fo := o.fo.step p
  len := o.len
  slots := fun i s hs => by
    have h := o.slots i s hs
    cases s with
    | un => exact True.intro
    | val d =>
      obtain ⟨v, e, h⟩ := h
      exact ⟨v, e, dpm p.f0 d v h⟩
    | cell ds =>
      obtain ⟨a, vs, e, hf, h0, hh, ha, hp⟩ := h
      refine ⟨a, vs, e, ?_, h0, ?_, dpmA p.f0 ds vs ha, hp⟩
      · cases q : F' a with
        | none => rfl
        | some u =>
          rcases p.fresh a u q with z | z
          · have z : F a = some u := z
            rw [hf] at z; cases z
          · have z : H a = none := z
            rw [hh] at z; cases z
      · refine p.keep a _ hh fun hm => ?_
        have hm : a ∈ plM B.pl := hm
        cases e : B.pl with
        | none => rw [e] at hm; simp [plM] at hm
        | some q =>
          obtain ⟨p1, l1⟩ := q
          have z := hp p1 l1 e
          rw [e] at hm
          rcases (by simpa [plM] using hm : a = p1 ∨ a = l1) with y | y
          · exact z.1 y
          · exact z.2 y
    | pool => exact h
    | exc a c dd xd =>
      obtain ⟨e, ec, d, fs, ed, hd, hf, ha⟩ := h
      refine ⟨e, ec, d, fs, ed, p.keep d _ hd fun hm => ?_, hf, dpmA p.f0 _ _ ha⟩
      have hm : d ∈ plM B.pl := hm
      cases q : B.pl with
      | none => rw [q] at hm; simp [plM] at hm
      | some q' =>
        obtain ⟨p1, l1⟩ := q'
        obtain ⟨⟨_, _, _, a0, b0, c0, n0, xs0, g1, g2⟩, _⟩ := o.fo.pool p1 l1 q
        rw [q] at hm
        rcases (by simpa [plM] using hm : d = p1 ∨ d = l1) with y | y
        · rw [y, g1] at hd; cases hd
        · rw [y, g2] at hd; cases hd
  apart := o.apart
theorem getset {α : Type} (l : List α) (i j : Nat) (x : α) : (l.set i x)[j]? = if i = j then (if i < l.length then some x else none) else l[j]? := List.getElem?_set
/-- a slot is given a value -/
theorem SO.put (o : SO K B σ H F env) (i : Nat) {v : V} {d : PyData} (h : Hs K F v d) : SO K B (σ.set i (some v)) H F (env.set i (.val d)) where
  fo := o.fo
  len := by rw [List.length_set, List.length_set]; exact o.len
  slots := fun j s hs => by
    rw [getset] at hs
    by_cases e : i = j
    · subst e
      rw [if_pos rfl] at hs
      by_cases hl : i < env.length
      · rw [if_pos hl] at hs
        cases hs
        refine ⟨v, ?_, h⟩
        rw [getset, if_pos rfl, if_pos (by rw [← o.len]; exact hl)]
      · rw [if_neg hl] at hs; cases hs
    · rw [if_neg e] at hs
      rw [getset, if_neg e]
      exact o.slots j s hs
  apart := fun a b xs ys ad h1 h2 h3 h4 => by
    rw [getset] at h1 h2 h3 h4
    by_cases ea : i = a
    · subst ea
      rw [if_pos rfl] at h1
      split at h1 <;> cases h1
    · by_cases eb : i = b
      · subst eb
        rw [if_pos rfl] at h2
        split at h2 <;> cases h2
      · rw [if_neg ea] at h1 h3
        rw [if_neg eb] at h2 h4
        exact o.apart a b xs ys ad h1 h2 h3 h4
/-- a slot is forgotten -/
theorem SO.drop (o : SO K B σ H F env) (i : Nat) (x : Option V) : SO K B (σ.set i x) H F (env.set i .un) where
  fo := o.fo
  len := by rw [List.length_set, List.length_set]; exact o.len
  slots := fun j s hs => by
    rw [getset] at hs
    by_cases e : i = j
    · subst e
      rw [if_pos rfl] at hs
      by_cases hl : i < env.length
      · rw [if_pos hl] at hs
        cases hs
        exact True.intro
      · rw [if_neg hl] at hs; cases hs
    · rw [if_neg e] at hs
      rw [getset, if_neg e]
      exact o.slots j s hs
  apart := fun a b xs ys ad h1 h2 h3 h4 => by
    rw [getset] at h1 h2 h3 h4
    by_cases ea : i = a
    · subst ea
      rw [if_pos rfl] at h1
      split at h1 <;> cases h1
    · by_cases eb : i = b
      · subst eb
        rw [if_pos rfl] at h2
        split at h2 <;> cases h2
      · rw [if_neg ea] at h1 h3
        rw [if_neg eb] at h2 h4
        exact o.apart a b xs ys ad h1 h2 h3 h4
/-- a slot is given a new list of one's own -/
theorem SO.putC (o : SO K B σ H F env) (i : Nat) {a : Addr} {vs : List V} {ds : List PyData} (hf : F a = none) (h0 : B.H0 a = none) (hh : H a = some (.lst vs)) (hd : HsA K F vs ds)
    (hp : ∀ p l, B.pl = some (p, l) → a ≠ p ∧ a ≠ l) (hn : ∀ (j : Nat) (xs : List PyData), env[j]? = some (.cell xs) → σ[j]? = some (some (.ref a)) → j = i) : SO K B (σ.set i (some (.ref a))) H F (env.set i (.cell ds)) where
  fo := o.fo
  len := by rw [List.length_set, List.length_set]; exact o.len
  slots := fun j s hs => by
    rw [getset] at hs
    by_cases e : i = j
    · subst e
      rw [if_pos rfl] at hs
      by_cases hl : i < env.length
      · rw [if_pos hl] at hs
        cases hs
        refine ⟨a, vs, ?_, hf, h0, hh, hd, hp⟩
        rw [getset, if_pos rfl, if_pos (by rw [← o.len]; exact hl)]
      · rw [if_neg hl] at hs; cases hs
    · rw [if_neg e] at hs
      rw [getset, if_neg e]
      exact o.slots j s hs
  apart := fun j k xs ys ad h1 h2 h3 h4 => by
    rw [getset] at h1 h2 h3 h4
    by_cases ea : i = j
    · subst ea
      by_cases eb : i = k
      · exact eb
      · rw [if_pos rfl] at h3
        split at h3
        · cases h3
          rw [if_neg eb] at h2 h4
          exact (hn k ys h2 h4).symm
        · cases h3
    · by_cases eb : i = k
      · subst eb
        rw [if_pos rfl] at h4
        split at h4
        · cases h4
          rw [if_neg ea] at h1 h3
          exact hn j xs h1 h3
        · cases h4
      · rw [if_neg ea] at h1 h3
        rw [if_neg eb] at h2 h4
        exact o.apart j k xs ys ad h1 h2 h3 h4
/-- a list of one's own is frozen -/
theorem SO.freeze (o : SO K B σ H F env) {i : Nat} {ds : List PyData} (hi : env[i]? = some (.cell ds)) : ∃ F', Ex F F' ∧ SO K B σ H F' (env.set i (.val (.list ds))) := by
  obtain ⟨a, vs, e, hf, h0, hh, hd, hp⟩ := o.slots i _ hi
  have ef : Ex F (upd F a (.lst vs)) := Evl.Ex.new hf
  refine ⟨upd F a (.lst vs), ef, ⟨fun b x h => ?_, o.fo.f0.trans ef, fun b x h => ?_, o.fo.keep, o.fo.dom, fun q l e => ?_⟩, by rw [List.length_set]; exact o.len, fun j s hs => ?_, fun j k xs ys ad h1 h2 h3 h4 => ?_⟩
  · by_cases e : b = a
    · subst e; rw [upd_same] at h; rw [hh]; exact h
    · rw [upd_ne e] at h; exact o.fo.fh b x h
  · by_cases e : b = a
    · subst e; exact .inr h0
    · rw [upd_ne e] at h; exact o.fo.fresh b x h
  · obtain ⟨⟨f1, f2, ne, w⟩, m⟩ := o.fo.pool q l e
    have z := hp q l e
    refine ⟨⟨?_, ?_, ne, w⟩, m⟩
    · rw [upd_ne (Ne.symm z.1)]; exact f1
    · rw [upd_ne (Ne.symm z.2)]; exact f2
  · rw [getset] at hs
    by_cases ej : i = j
    · subst ej
      rw [if_pos rfl] at hs
      split at hs
      · cases hs
        exact ⟨.ref a, e, .lst upd_same (dpmA ef ds vs hd)⟩
      · cases hs
    · rw [if_neg ej] at hs
      have h := o.slots j s hs
      cases s with
      | un => exact True.intro
      | val d =>
        obtain ⟨v, e, h⟩ := h
        exact ⟨v, e, dpm ef d v h⟩
      | pool => exact h
      | exc a c dd xd =>
        obtain ⟨e, ec, d, fs, ed, hd', hf', ha'⟩ := h
        exact ⟨e, ec, d, fs, ed, hd', hf', dpmA ef _ _ ha'⟩
      | cell xs =>
        obtain ⟨a2, vs2, e2, hf2, h02, hh2, hd2, hp2⟩ := h
        refine ⟨a2, vs2, e2, ?_, h02, hh2, dpmA ef xs vs2 hd2, hp2⟩
        rw [upd_ne]
        · exact hf2
        · intro z
          subst z
          exact ej (o.apart i j ds xs a2 hi hs e e2)
  · rw [getset] at h1 h2
    by_cases ea : i = j
    · subst ea
      rw [if_pos rfl] at h1
      split at h1 <;> cases h1
    · by_cases eb : i = k
      · subst eb
        rw [if_pos rfl] at h2
        split at h2 <;> cases h2
      · rw [if_neg ea] at h1
        rw [if_neg eb] at h2
        exact o.apart j k xs ys ad h1 h2 h3 h4
end
end Hw
-- HwB
set_option Elab.async false
set_option linter.all false
set_option maxRecDepth 100000
set_option maxHeartbeats 2000000
namespace Hw
open PySem L2
abbrev DQ := PyData → Prop
abbrev XQ := XD → Prop
abbrev WE := List Sl → DQ → XQ → Prop
abbrev WT := List Sl → (Bool → Prop) → XQ → Prop
abbrev WA := List Sl → (List Sl → Prop) → XQ → Prop
def OkV (K : PySem.W.Frag) (B : Bs) (F H : Hp) (Qd : DQ) (Q : VK) : Prop := ∀ v H' F' d, FO (stp B F H) H' F' → Hs K F' v d → Qd d → Q v H'
def OkX (K : PySem.W.Frag) (B : Bs) (F H : Hp) (σ : List (Option V)) (Xd : XQ) (W : WX) : Prop := ∀ c dd H' F' x, FO (stp B F H) H' F' → XIs K F' H' c dd x → Xd x → W c dd σ H'
def LE (K : PySem.W.Frag) (W : WX) (w : WE) : TE := fun σ H Q => ∃ B F env Qd Xd, SO K B σ H F env ∧ w env Qd Xd ∧ OkV K B F H Qd Q ∧ OkX K B F H σ Xd W
def LT (K : PySem.W.Frag) (W : WX) (w : WT) : TT := fun σ H Q => ∃ B F env Qd Xd, SO K B σ H F env ∧ w env Qd Xd ∧ (∀ b H' F', FO (stp B F H) H' F' → Qd b → Q b H') ∧ OkX K B F H σ Xd W
/-- a new list, not yet frozen -/
def LF (K : PySem.W.Frag) (W : WX) (w : WE) : TE := fun σ H Q => ∃ B F env Qd Xd, SO K B σ H F env ∧ w env Qd Xd ∧
  (∀ a vs H' F' ds, FO (stp B F H) H' F' → F' a = none → H a = none → H' a = some (.lst vs) → HsA K F' vs ds → Qd (.list ds) → Q (.ref a) H') ∧ OkX K B F H σ Xd W
def AOk (K : PySem.W.Frag) (B : Bs) (F : Hp) : List V → List Sl → Prop
  | [], [] => True
  | v :: vs, .val d :: ss => Hs K F v d ∧ AOk K B F vs ss
  | v :: vs, .pool :: ss => (∃ p l, B.pl = some (p, l) ∧ v = .ref p) ∧ AOk K B F vs ss
  | _, _ => False
def LA (K : PySem.W.Frag) (W : WX) (w : WA) : TA := fun σ H Q => ∃ B F env Qd Xd, SO K B σ H F env ∧ w env Qd Xd ∧ (∀ vs H' F' ss, FO (stp B F H) H' F' → AOk K B F' vs ss → Qd ss → Q vs H') ∧ OkX K B F H σ Xd W
section
variable {K : PySem.W.Frag} {B : Bs} {F H F1 H1 : Hp} {σ : List (Option V)} {W : WX} {env : List Sl}
theorem OkV.step {Qd : DQ} {Q : VK} (h : OkV K B F H Qd Q) (s : FO (stp B F H) H1 F1) : OkV K B F1 H1 Qd Q := fun v H' F' d p => h v H' F' d (s.trans p)
theorem OkX.step {Xd : XQ} (h : OkX K B F H σ Xd W) (s : FO (stp B F H) H1 F1) : OkX K B F1 H1 σ Xd W := fun c dd H' F' x p => h c dd H' F' x (s.trans p)
theorem aok_mono {F' : Hp} (e : Ex F F') : ∀ {vs : List V} {ss : List Sl}, AOk K B F vs ss → AOk K B F' vs ss
  | [], [], h => h
  | v :: vs, .val d :: ss, h => ⟨dpm e d v h.1, aok_mono e h.2⟩
  | v :: vs, .pool :: ss, h => ⟨h.1, aok_mono e h.2⟩
  | [], _ :: _, h => h.elim
  | _ :: _, [], h => h.elim
  | _ :: _, .un :: _, h => h.elim
  | _ :: _, .cell _ :: _, h => h.elim
  | _ :: _, .exc .. :: _, h => h.elim
end
def PD (X : Cx) (W : WX) (e : Expr) (w : WE) : Prop := PE X e (LE X.K W w)
def PF (X : Cx) (W : WX) (e : Expr) (w : WE) : Prop := PE X e (LF X.K W w)
def PTd (X : Cx) (W : WX) (e : Expr) (w : WT) : Prop := PT X e (LT X.K W w)
def PWd (X : Cx) (W : WX) (e : Expr) (w : WT) : Prop := PW X e (LT X.K W w)
def PAd (X : Cx) (W : WX) (es : List Expr) (w : WA) : Prop := PA X es (LA X.K W w)
theorem pe_imp {X : Cx} {e : Expr} {t t' : TE} (h : PE X e t) (i : ∀ σ H Q, t' σ H Q → t σ H Q) : PE X e t' := ⟨fun pins s σ H Q I q => h.run pins s σ H Q I (i σ H Q q)⟩
theorem pt_imp {X : Cx} {e : Expr} {t t' : TT} (h : PT X e t) (i : ∀ σ H Q, t' σ H Q → t σ H Q) : PT X e t' := ⟨fun pins s σ H Q I q => h.run pins s σ H Q I (i σ H Q q)⟩
theorem pw_imp {X : Cx} {e : Expr} {t t' : TT} (h : PW X e t) (i : ∀ σ H Q, t' σ H Q → t σ H Q) : PW X e t' := ⟨fun wh pins s σ H Q I q => h.run wh pins s σ H Q I (i σ H Q q)⟩
theorem pa_imp {X : Cx} {e : List Expr} {t t' : TA} (h : PA X e t) (i : ∀ σ H Q, t' σ H Q → t σ H Q) : PA X e t' := ⟨fun pos pins s σ H Q I q => h.run pos pins s σ H Q I (i σ H Q q)⟩
theorem ps_imp {X : Cx} {e : Stmt} {t t' : TS} (h : PS X e t) (i : ∀ D σ H, t' D σ H → t D σ H) : PS X e t' := ⟨fun pins s σ H D I q => h.run pins s σ H D I (i D σ H q)⟩
theorem pss_imp {X : Cx} {e : List Stmt} {t t' : TS} (h : PSs X e t) (i : ∀ D σ H, t' D σ H → t D σ H) : PSs X e t' := ⟨fun pins s σ H D I q => h.run pins s σ H D I (i D σ H q)⟩

/-! ### the slots -/
def slot : List Sl → Nat → Sl
  | [], _ => .un
  | s :: _, 0 => s
  | _ :: r, i + 1 => slot r i
theorem slot_some {env : List Sl} : ∀ {i : Nat} {s : Sl}, slot env i = s → s ≠ .un → env[i]? = some s := by
  induction env with
  | nil => intro i s h n; exact absurd h.symm n
  | cons a r ih =>
    intro i s h n
    cases i with
    | zero => simp [slot] at h; simp [h]
    | succ i => simpa using ih (i := i) h n
def wVar (i : Nat) : WE := fun env Q _ => match slot env i with
  | .val d => Q d
  | _ => False
def wC (d : PyData) : WE := fun _ Q _ => Q d
def fOp2 := PyData → PyData → DQ → Prop
def wOp (f : PyData → PyData → DQ → Prop) (a b : WE) : WE := fun env Q X => a env (fun x => b env (fun y => f x y Q) X) X
def wUn (f : PyData → DQ → Prop) (a : WE) : WE := fun env Q X => a env (fun x => f x Q) X
/-- what an operation does, by data -/
def OpD (K : PySem.W.Frag) (r : R2) (f : PyData → PyData → DQ → Prop) : Prop := ∀ (B : Bs) (H F : Hp) (x y : V) (dx dy : PyData) (Qd : DQ) (Q : VK), FO B H F → Hs K F x dx → Hs K F y dy → f dx dy Qd → OkV K B F H Qd Q → r x y H Q
def UnD (K : PySem.W.Frag) (r : V → Hp → VK → Prop) (f : PyData → DQ → Prop) : Prop := ∀ (B : Bs) (H F : Hp) (x : V) (dx : PyData) (Qd : DQ) (Q : VK), FO B H F → Hs K F x dx → f dx Qd → OkV K B F H Qd Q → r x H Q
def CaD (K : PySem.W.Frag) (r : List V → Hp → VK → Prop) (f : List PyData → DQ → Prop) : Prop := ∀ (B : Bs) (H F : Hp) (xs : List V) (ds : List PyData) (Qd : DQ) (Q : VK), FO B H F → HsA K F xs ds → f ds Qd → OkV K B F H Qd Q → r xs H Q
section
variable {X : Cx} {W : WX} {a b e : Expr} {es : List Expr} {wa wb we : WE} {pos : Pos}
theorem pd_var (i : Nat) {x : Str} (hN : X.N[i]? = some x := by rfl) (hv : Vis X.env.scope x := by first | exact Or.inl rfl | exact Or.inr (Or.inl rfl) | exact Or.inr (Or.inr rfl)) (hd : (x == ("__debug__" : Str)) = false := by decide)
    (hcd : (x == ("__classdict__" : Str)) = false := by decide) : PD X W (.Name x pos) (wVar i) := by
  refine pe_imp (pe_var hN hv hd hcd) ?_
  rintro σ H Q ⟨B, F, env, Qd, Xd, so, w, ok, okx⟩
  unfold wVar at w
  split at w
  · rename_i d hs
    obtain ⟨v, e, h⟩ := so.slots i _ (slot_some hs (by simp))
    exact ⟨v, e, ok v H F d so.fo.refl h w⟩
  · exact w.elim
theorem pd_c {e : Expr} {v : V} {d : PyData} (h : PE X e (tC v)) (hd : ∀ H, Hs X.K H v d) : PD X W e (wC d) := by
  refine pe_imp h ?_
  rintro σ H Q ⟨B, F, env, Qd, Xd, so, w, ok, okx⟩
  exact ok v H F d so.fo.refl (hd F) w
theorem pd_int {i : Int} {j} : PD X W (.Constant (.int i) j pos) (wC (.int i)) := pd_c pe_int fun _ => .int i
theorem pd_bl {i : Bool} {j} : PD X W (.Constant (.bool i) j pos) (wC (.bool i)) := pd_c pe_bl fun _ => .bl i
theorem pd_non {j} : PD X W (.Constant .none j pos) (wC .none) := pd_c pe_non fun _ => .non
theorem pd_str {z : Str} {j} : PD X W (.Constant (.str z) j pos) (wC (.str z)) := pd_c pe_str fun _ => .str z
/-- two operands, an operation -/
theorem two_op {K : PySem.W.Frag} {r : R2} {f : PyData → PyData → DQ → Prop} (hr : OpD K r f) (σ : List (Option V)) (H : Hp) (Q : VK) (h : LE K W (wOp f wa wb) σ H Q) : tOp r (LE K W wa) (LE K W wb) σ H Q := by
  obtain ⟨B, F, env, Qd, Xd, so, w, ok, okx⟩ := h
  refine ⟨B, F, env, _, Xd, so, w, fun x H1 F1 dx s1 hx w1 => ?_, okx⟩
  refine ⟨B, F1, env, _, Xd, so.step s1, w1, fun y H2 F2 dy s2 hy w2 => ?_, okx.step s1⟩
  exact hr B H2 F2 x y dx dy Qd Q ((so.step s1).step s2).fo (dpm s2.f0 dx x hx) hy w2 (ok.step (s1.trans s2))
theorem pd_op {op : Operator} {r : R2} {f : PyData → PyData → DQ → Prop} (ho : OpR X (binaryOp op) r) (hr : OpD X.K r f) (ha : PD X W a wa) (hb : PD X W b wb) : PD X W (.BinOp a op b pos) (wOp f wa wb) :=
  pe_imp (pe_op ho ha hb) (two_op hr)
theorem pd_un {op : UnaryOp} {r : V → Hp → VK → Prop} {f : PyData → DQ → Prop} (ho : UnR X (unaryOp op) r) (hr : UnD X.K r f) (ha : PD X W a wa) : PD X W (.UnaryOp op a pos) (wUn f wa) := by
  refine pe_imp (pe_un ho ha) ?_
  rintro σ H Q ⟨B, F, env, Qd, Xd, so, w, ok, okx⟩
  exact ⟨B, F, env, _, Xd, so, w, fun x H1 F1 dx s1 hx w1 => hr B H1 F1 x dx Qd Q (so.step s1).fo hx w1 (ok.step s1), okx⟩
theorem pd_cmp {op : CmpOp} {r : R2} {f : PyData → PyData → DQ → Prop} (ho : OpR X (compareOp op) r) (hr : OpD X.K r f) (ha : PD X W a wa) (hb : PD X W b wb) (hm : behindInMarks op b = false) : PD X W (.Compare a [op] [b] pos) (wOp f wa wb) :=
  pe_imp (pe_cmpR ho ha hb hm) (two_op hr)
theorem pd_ix {r : R2} {f : PyData → PyData → DQ → Prop} (ho : IxR X r) (hr : OpD X.K r f) (ha : PD X W a wa) (hb : PD X W b wb) (hs : PlainIx b) : PD X W (.Subscript a b pos) (wOp f wa wb) :=
  pe_imp (pe_ix ho ha hb hs) (two_op hr)
/-- arguments -/
def aNil : WA := fun _ Q _ => Q []
def aCons (w : WE) (r : WA) : WA := fun env Q X => w env (fun d => r env (fun ss => Q (.val d :: ss)) X) X
def aPool (i : Nat) (r : WA) : WA := fun env Q X => slot env i = .pool ∧ r env (fun ss => Q (.pool :: ss)) X
theorem pad_nil : PAd X W [] aNil := by
  refine pa_imp pa_nil ?_
  rintro σ H Q ⟨B, F, env, Qd, Xd, so, w, ok, okx⟩
  exact ok [] H F [] so.fo.refl trivial w
theorem pad_cons {wr : WA} (he : PD X W e we) (hr : PAd X W es wr) (hs : starEach (e :: es) X.env = (false, eval e X.env) :: starEach es X.env := by rfl) : PAd X W (e :: es) (aCons we wr) := by
  refine pa_imp (pa_cons he hr hs) ?_
  rintro σ H Q ⟨B, F, env, Qd, Xd, so, w, ok, okx⟩
  refine ⟨B, F, env, _, Xd, so, w, fun x H1 F1 dx s1 hx w1 => ?_, okx⟩
  refine ⟨B, F1, env, _, Xd, so.step s1, w1, fun vs H2 F2 ss s2 hv w2 => ?_, okx.step s1⟩
  exact ok (x :: vs) H2 F2 (.val dx :: ss) (s1.trans s2) ⟨dpm s2.f0 dx x hx, hv⟩ w2
theorem pad_pool (i : Nat) {x : Str} {p : Pos} {wr : WA} (hr : PAd X W es wr) (hN : X.N[i]? = some x := by rfl) (hv : Vis X.env.scope x := by first | exact Or.inl rfl | exact Or.inr (Or.inl rfl) | exact Or.inr (Or.inr rfl)) (hd : (x == ("__debug__" : Str)) = false := by decide)
    (hcd : (x == ("__classdict__" : Str)) = false := by decide) (hs : starEach (.Name x p :: es) X.env = (false, eval (.Name x p) X.env) :: starEach es X.env := by rfl) : PAd X W (.Name x p :: es) (aPool i wr) := by
  refine pa_imp (pa_cons (pe_var hN hv hd hcd) hr hs) ?_
  rintro σ H Q ⟨B, F, env, Qd, Xd, so, ⟨w0, w⟩, ok, okx⟩
  obtain ⟨p, l, e, hx⟩ := so.slots i _ (slot_some w0 (by simp))
  refine ⟨.ref p, hx, ?_⟩
  exact ⟨B, F, env, _, Xd, so, w, fun vs H2 F2 ss s2 hv w2 => ok (.ref p :: vs) H2 F2 (.pool :: ss) s2 ⟨⟨p, l, e, rfl⟩, hv⟩ w2, okx⟩
/-- the data of arguments that are all data -/
def datas : List Sl → Option (List PyData)
  | [] => some []
  | .val d :: r => (datas r).map (d :: ·)
  | _ :: _ => none
theorem aok_datas {K : PySem.W.Frag} {B : Bs} {F : Hp} : ∀ {vs : List V} {ss : List Sl} {ds : List PyData}, AOk K B F vs ss → datas ss = some ds → HsA K F vs ds
  | [], [], ds, _, e => by
    have e : some [] = some ds := e
    cases e
    exact .nil
  | v :: vs, .val d :: ss, ds, h, e => by
    cases q : datas ss with
    | none => simp [datas, q] at e
    | some r =>
      simp [datas, q] at e
      subst e
      exact .cons h.1 (aok_datas h.2 q)
  | v :: vs, .pool :: ss, _, _, e => by simp [datas] at e
  | v :: vs, .un :: ss, _, h, _ => h.elim
  | v :: vs, .cell _ :: ss, _, h, _ => h.elim
  | v :: vs, .exc .. :: ss, _, h, _ => h.elim
  | [], _ :: _, _, h, _ => h.elim
  | _ :: _, [], _, h, _ => h.elim
/-- a built-in function of data -/
def wCB (f : List PyData → DQ → Prop) (wa : WA) : WE := fun env Q X => wa env (fun ss => match datas ss with
  | some ds => f ds Q
  | none => False) X
theorem la_cb {K : PySem.W.Frag} {r : List V → Hp → VK → Prop} {f : List PyData → DQ → Prop} {wa : WA} (hr : CaD K r f) (σ : List (Option V)) (H : Hp) (Q : VK) (h : LE K W (wCB f wa) σ H Q) : tCB r (LA K W wa) σ H Q := by
  obtain ⟨B, F, env, Qd, Xd, so, w, ok, okx⟩ := h
  refine ⟨B, F, env, _, Xd, so, w, fun vs H1 F1 ss s1 hv w1 => ?_, okx⟩
  try dsimp only at w1
  split at w1
  · rename_i ds hd
    exact hr B H1 F1 vs ds Qd Q (so.step s1).fo (aok_datas hv hd) w1 (ok.step s1)
  · exact w1.elim
theorem pd_cb {id : String} {r : List V → Hp → VK → Prop} {f : List PyData → DQ → Prop} {x : Str} {p : Pos} {wa : WA} (hr : CaD X.K r f) (hc : CallR X (.builtin id) r) (hg : Gl X x) (hm : X.mg x = none) (hv : bootBuiltins x = some (.builtin id)) (ha : PAd X W (e :: es) wa)
    (hn : x ≠ "__name__" := by decide) (hdb : (x == ("__debug__" : Str)) = false := by decide)
    (he : starEach (e :: es) X.env = (false, eval e X.env) :: starEach es X.env := by rfl) (hpl : (backTo pos (starEach es X.env)).any (·.1) = false := by rfl) : PD X W (.Call (.Name x p) (e :: es) [] pos) (wCB f wa) :=
  pe_imp (pe_callB hc hg hm hv ha hn hdb he hpl) (la_cb hr)
theorem pd_cty {id : String} {r : List V → Hp → VK → Prop} {f : List PyData → DQ → Prop} {x : Str} {p : Pos} {wa : WA} (hr : CaD X.K r f) (hc : CallR X (.type id) r) (hg : Gl X x) (hm : X.mg x = none) (hv : bootBuiltins x = some (.type id)) (ha : PAd X W (e :: es) wa)
    (hn : x ≠ "__name__" := by decide) (hdb : (x == ("__debug__" : Str)) = false := by decide)
    (he : starEach (e :: es) X.env = (false, eval e X.env) :: starEach es X.env := by rfl) (hpl : (backTo pos (starEach es X.env)).any (·.1) = false := by rfl) : PD X W (.Call (.Name x p) (e :: es) [] pos) (wCB f wa) :=
  pe_imp (pe_callTy hc hg hm hv ha hn hdb he hpl) (la_cb hr)
theorem pd_cfun {id : String} {r : List V → Hp → VK → Prop} {f : List PyData → DQ → Prop} {x : Str} {p : Pos} {wa : WA} (hr : CaD X.K r f) (hc : CallR X (.builtin id) r) (hg : Gl X x) (hm : X.mg x = some (.builtin id)) (ha : PAd X W (e :: es) wa)
    (hdb : (x == ("__debug__" : Str)) = false := by decide)
    (he : starEach (e :: es) X.env = (false, eval e X.env) :: starEach es X.env := by rfl) (hpl : (backTo pos (starEach es X.env)).any (·.1) = false := by rfl) : PD X W (.Call (.Name x p) (e :: es) [] pos) (wCB f wa) :=
  pe_imp (pe_callBfun hc hg hm ha hdb he hpl) (la_cb hr)
/-- tuple, list displays -/
def wTup (wa : WA) : WE := fun env Q X => wa env (fun ss => match datas ss with
  | some ds => ds.length ≤ 16777216 ∧ Q (.tuple ds)
  | none => False) X
def wLst (wa : WA) : WE := fun env Q X => wa env (fun ss => match datas ss with
  | some ds => ds.length ≤ 16777216 ∧ Q (.list ds)
  | none => False) X
theorem line_le {n : Nat} (h : n ≤ 16777216) : n ≤ sizeLine := by rw [sizeLine_eq]; exact h
theorem pd_tup {x1} {wa : WA} (ha : PAd X W es wa) : PD X W (.Tuple es x1 pos) (wTup wa) := by
  refine pe_imp (pe_tup ha) ?_
  rintro σ H Q ⟨B, F, env, Qd, Xd, so, w, ok, okx⟩
  refine ⟨B, F, env, _, Xd, so, w, fun vs H1 F1 ss s1 hv w1 => ?_, okx⟩
  try dsimp only at w1
  split at w1
  · rename_i ds hd
    have hh := aok_datas hv hd
    refine ⟨line_le (by rw [dpA_len hh]; exact w1.1), fun p hp => ?_⟩
    have fo := (so.step s1).fo
    exact ok (.ref p) _ _ (.tuple ds) (s1.trans (fo.alloc hp)) (.tup (Evl.st_of upd_same) (dpmA (Evl.Ex.new (fo.fnone hp)) ds vs hh)) w1.2
  · exact w1.elim
theorem pf_lst {wa : WA} (ha : PAd X W es wa) : PF X W (.List es pos) (wLst wa) := by
  refine pe_imp (pe_lst ha) ?_
  rintro σ H Q ⟨B, F, env, Qd, Xd, so, w, ok, okx⟩
  refine ⟨B, F, env, _, Xd, so, w, fun vs H1 F1 ss s1 hv w1 => ?_, okx⟩
  try dsimp only at w1
  split at w1
  · rename_i ds hd
    have hh := aok_datas hv hd
    refine ⟨line_le (by rw [dpA_len hh]; exact w1.1), fun p hp => ?_⟩
    have fo := (so.step s1).fo
    exact ok p vs _ F1 ds (s1.trans (fo.lay hp)) (fo.fnone hp) (s1.dom p hp) upd_same hh w1.2
  · exact w1.elim
theorem lf_le {K : PySem.W.Frag} (σ : List (Option V)) (H : Hp) (Q : VK) (h : LE K W we σ H Q) : LF K W we σ H Q := by
  obtain ⟨B, F, env, Qd, Xd, so, w, ok, okx⟩ := h
  refine ⟨B, F, env, Qd, Xd, so, w, fun a vs H' F' ds s hf ha hh hd q => ?_, okx⟩
  have ef : Ex F' (upd F' a (.lst vs)) := Evl.Ex.new hf
  refine ok (.ref a) H' (upd F' a (.lst vs)) (.list ds) ⟨fun b x h => ?_, s.f0.trans ef, fun b x h => ?_, s.keep, s.dom, fun p l e => ?_⟩ (.lst upd_same (dpmA ef ds vs hd)) q
  · by_cases e : b = a
    · subst e; rw [upd_same] at h; rw [hh]; exact h
    · rw [upd_ne e] at h; exact s.fh b x h
  · by_cases e : b = a
    · subst e; exact .inr ha
    · rw [upd_ne e] at h; exact s.fresh b x h
  · obtain ⟨⟨f1, f2, ne, q⟩, m⟩ := s.pool p l e
    obtain ⟨⟨_, _, _, a0, b0, c0, n0, xs0, g1, g2⟩, _⟩ := so.fo.pool p l e
    refine ⟨⟨?_, ?_, ne, q⟩, m⟩
    · rw [upd_ne (ne_of_none g1 ha)]; exact f1
    · rw [upd_ne (ne_of_none g2 ha)]; exact f2
theorem PF.pd (h : PF X W e we) : PD X W e we := pe_imp h lf_le
/-! tests -/
def wTst (w : WE) : WT := fun env Q X => w env (fun d => match d with
  | .bool b => Q b
  | _ => False) X
theorem ptd_val (h : PD X W e we) (he : ∀ whole, isTrue e X.env whole = (do let v ← whole; standAt e.pos; holding [v] (truthy v)) := by intro _; rfl) : PTd X W e (wTst we) := by
  refine pt_imp (pt_val h he) ?_
  rintro σ H Q ⟨B, F, env, Qd, Xd, so, w, ok, okx⟩
  refine ⟨B, F, env, _, Xd, so, w, fun x H1 F1 dx s1 hx w1 => ?_, okx⟩
  try dsimp only at w1
  split at w1
  · rename_i b
    exact ⟨b, dp_bl hx, ok b H1 F1 s1 w1⟩
  · exact w1.elim
theorem two_tst {K : PySem.W.Frag} {r : R2} {f : PyData → PyData → DQ → Prop} (hr : OpD K r f) (σ : List (Option V)) (H : Hp) (Q : Bool → Hp → Prop) (h : LT K W (wTst (wOp f wa wb)) σ H Q) : tTest (tOp r (LE K W wa) (LE K W wb)) σ H Q := by
  obtain ⟨B, F, env, Qd, Xd, so, w, ok, okx⟩ := h
  refine two_op hr σ H _ ⟨B, F, env, _, Xd, so, w, fun x H1 F1 dx s1 hx w1 => ?_, okx⟩
  try dsimp only at w1
  split at w1
  · rename_i b
    exact ⟨b, dp_bl hx, ok b H1 F1 s1 w1⟩
  · exact w1.elim
theorem ptd_cmp {op : CmpOp} {r : R2} {f : PyData → PyData → DQ → Prop} (ho : OpR X (compareOp op) r) (hr : OpD X.K r f) (ha : PD X W a wa) (hb : PD X W b wb) (hm : behindInMarks op b = false) : PTd X W (.Compare a [op] [b] pos) (wTst (wOp f wa wb)) :=
  pt_imp (pt_cmpR ho ha hb hm) (two_tst hr)
def wNot (w : WT) : WT := fun env Q X => w env (fun b => Q (!b)) X
def wAnd (a b : WT) : WT := fun env Q X => a env (fun x => (x = true → b env Q X) ∧ (x = false → Q false)) X
def wOr (a b : WT) : WT := fun env Q X => a env (fun x => (x = true → Q true) ∧ (x = false → b env Q X)) X
variable {ua ub : WT} {rest : List Expr}
theorem ptd_not (h : PTd X W a ua) : PTd X W (.UnaryOp .Not a pos) (wNot ua) := by
  refine pt_imp (pt_not h) ?_
  rintro σ H Q ⟨B, F, env, Qd, Xd, so, w, ok, okx⟩
  exact ⟨B, F, env, _, Xd, so, w, fun b H1 F1 s1 w1 => ok (!b) H1 F1 s1 w1, okx⟩
theorem pwd_and1 (h : PTd X W a ua) : PWd X W (.BoolOp .And [a] pos) ua := pw_and1 h
theorem pwd_or1 (h : PTd X W a ua) : PWd X W (.BoolOp .Or [a] pos) ua := pw_or1 h
theorem lt_and {K : PySem.W.Frag} (σ : List (Option V)) (H : Hp) (Q : Bool → Hp → Prop) (h : LT K W (wAnd ua ub) σ H Q) : tAnd (LT K W ua) (LT K W ub) σ H Q := by
  obtain ⟨B, F, env, Qd, Xd, so, w, ok, okx⟩ := h
  refine ⟨B, F, env, _, Xd, so, w, fun b H1 F1 s1 w1 => ?_, okx⟩
  cases b with
  | true =>
    refine iteT ?_
    exact ⟨B, F1, env, Qd, Xd, so.step s1, w1.1 rfl, fun b H2 F2 s2 w2 => ok b H2 F2 (s1.trans s2) w2, okx.step s1⟩
  | false => exact iteF (ok false H1 F1 s1 (w1.2 rfl))
theorem lt_or {K : PySem.W.Frag} (σ : List (Option V)) (H : Hp) (Q : Bool → Hp → Prop) (h : LT K W (wOr ua ub) σ H Q) : tOr (LT K W ua) (LT K W ub) σ H Q := by
  obtain ⟨B, F, env, Qd, Xd, so, w, ok, okx⟩ := h
  refine ⟨B, F, env, _, Xd, so, w, fun b H1 F1 s1 w1 => ?_, okx⟩
  cases b with
  | true => exact iteT (ok true H1 F1 s1 (w1.1 rfl))
  | false =>
    refine iteF ?_
    exact ⟨B, F1, env, Qd, Xd, so.step s1, w1.2 rfl, fun b H2 F2 s2 w2 => ok b H2 F2 (s1.trans s2) w2, okx.step s1⟩
theorem pwd_and (ha : PTd X W a ua) (hb : PWd X W (.BoolOp .And (b :: rest) pos) ub) : PWd X W (.BoolOp .And (a :: b :: rest) pos) (wAnd ua ub) := pw_imp (pw_and ha hb) lt_and
theorem pwd_or (ha : PTd X W a ua) (hb : PWd X W (.BoolOp .Or (b :: rest) pos) ub) : PWd X W (.BoolOp .Or (a :: b :: rest) pos) (wOr ua ub) := pw_imp (pw_or ha hb) lt_or
theorem PWd.pt (h : PWd X W e ua) : PTd X W e ua := L2.PW.pt h
/-! and, or, not as values, of bools -/
def vAnd (a b : WE) : WE := fun env Q X => a env (fun d => match d with
  | .bool x => (x = true → b env (fun d => match d with | .bool _ => Q d | _ => False) X) ∧ (x = false → Q (.bool false))
  | _ => False) X
def vOr (a b : WE) : WE := fun env Q X => a env (fun d => match d with
  | .bool x => (x = true → Q (.bool true)) ∧ (x = false → b env (fun d => match d with | .bool _ => Q d | _ => False) X)
  | _ => False) X
def vNot (a : WE) : WE := fun env Q X => a env (fun d => match d with
  | .bool x => Q (.bool (!x))
  | _ => False) X
theorem pd_one {op} (h : PD X W a wa) : PD X W (.BoolOp op [a] pos) wa := pe_one h
theorem pd_and (ha : PD X W a wa) (hb : PD X W (.BoolOp .And (b :: rest) pos) wb) : PD X W (.BoolOp .And (a :: b :: rest) pos) (vAnd wa wb) := by
  refine pe_imp (pe_and ha hb) ?_
  rintro σ H Q ⟨B, F, env, Qd, Xd, so, w, ok, okx⟩
  refine ⟨B, F, env, _, Xd, so, w, fun x H1 F1 dx s1 hx w1 => ?_, okx⟩
  try dsimp only at w1
  split at w1
  · rename_i c
    refine ⟨c, dp_bl hx, ?_⟩
    cases c with
    | true =>
      refine iteT ?_
      refine ⟨B, F1, env, _, Xd, so.step s1, w1.1 rfl, fun y H2 F2 dy s2 hy w2 => ?_, okx.step s1⟩
      try dsimp only at w2
      split at w2
      · exact ok y H2 F2 _ (s1.trans s2) hy w2
      · exact w2.elim
    | false => exact iteF (ok (.bl false) H1 F1 (.bool false) s1 (.bl false) (w1.2 rfl))
  · exact w1.elim
theorem pd_or (ha : PD X W a wa) (hb : PD X W (.BoolOp .Or (b :: rest) pos) wb) : PD X W (.BoolOp .Or (a :: b :: rest) pos) (vOr wa wb) := by
  refine pe_imp (pe_or ha hb) ?_
  rintro σ H Q ⟨B, F, env, Qd, Xd, so, w, ok, okx⟩
  refine ⟨B, F, env, _, Xd, so, w, fun x H1 F1 dx s1 hx w1 => ?_, okx⟩
  try dsimp only at w1
  split at w1
  · rename_i c
    refine ⟨c, dp_bl hx, ?_⟩
    cases c with
    | true => exact iteT (ok (.bl true) H1 F1 (.bool true) s1 (.bl true) (w1.1 rfl))
    | false =>
      refine iteF ?_
      refine ⟨B, F1, env, _, Xd, so.step s1, w1.2 rfl, fun y H2 F2 dy s2 hy w2 => ?_, okx.step s1⟩
      try dsimp only at w2
      split at w2
      · exact ok y H2 F2 _ (s1.trans s2) hy w2
      · exact w2.elim
  · exact w1.elim
theorem pd_not (ha : PD X W a wa) : PD X W (.UnaryOp .Not a pos) (vNot wa) := by
  refine pe_imp (pe_not ha) ?_
  rintro σ H Q ⟨B, F, env, Qd, Xd, so, w, ok, okx⟩
  refine ⟨B, F, env, _, Xd, so, w, fun x H1 F1 dx s1 hx w1 => ?_, okx⟩
  try dsimp only at w1
  split at w1
  · rename_i c
    exact ⟨c, dp_bl hx, ok (.bl (!c)) H1 F1 (.bool (!c)) s1 (.bl _) w1⟩
  · exact w1.elim
def wIf (c : WT) (a b : WE) : WE := fun env Q X => c env (fun x => (x = true → a env Q X) ∧ (x = false → b env Q X)) X
theorem pd_if {c : Expr} (hc : PTd X W c ua) (ha : PD X W a wa) (hb : PD X W b wb) : PD X W (.IfExp c a b pos) (wIf ua wa wb) := by
  refine pe_imp (pe_ifExp hc ha hb) ?_
  rintro σ H Q ⟨B, F, env, Qd, Xd, so, w, ok, okx⟩
  refine ⟨B, F, env, _, Xd, so, w, fun b H1 F1 s1 w1 => ?_, okx⟩
  cases b with
  | true => exact iteT ⟨B, F1, env, Qd, Xd, so.step s1, w1.1 rfl, ok.step s1, okx.step s1⟩
  | false => exact iteF ⟨B, F1, env, Qd, Xd, so.step s1, w1.2 rfl, ok.step s1, okx.step s1⟩
end

/-! ### operations by data -/
def fInt (C : Int → Int → Prop) (g : Int → Int → PyData) : PyData → PyData → DQ → Prop := fun x y Q => match x, y with
  | .int i, .int j => C i j ∧ Q (g i j)
  | _, _ => False
theorem opd_int {K : PySem.W.Frag} {C : Int → Int → Prop} {g : Int → Int → V} {gd : Int → Int → PyData} (hg : ∀ i j H, Hs K H (g i j) (gd i j)) : OpD K (rI C g) (fInt C gd) := by
  intro B H F x y dx dy Qd Q fo hx hy w ok
  unfold fInt at w
  split at w
  · rename_i i j
    exact ⟨i, j, dp_int hx, dp_int hy, w.1, ok _ H F _ fo.refl (hg i j F) w.2⟩
  · exact w.elim
def fInt0 (g : Int → Int → PyData) : PyData → PyData → DQ → Prop := fun x y Q => match x, y with
  | .int i, .int j => Q (g i j)
  | _, _ => False
theorem opd_int0 {K : PySem.W.Frag} {g : Int → Int → V} {gd : Int → Int → PyData} (hg : ∀ i j H, Hs K H (g i j) (gd i j)) : OpD K (rI0 g) (fInt0 gd) := by
  intro B H F x y dx dy Qd Q fo hx hy w ok
  unfold fInt0 at w
  split at w
  · rename_i i j
    exact ⟨i, j, dp_int hx, dp_int hy, ok _ H F _ fo.refl (hg i j F) w⟩
  · exact w.elim
def fSub := fInt0 fun i j => .int (i - j)
theorem opd_sub {K : PySem.W.Frag} : OpD K (rI0 fun i j => .int (i - j)) fSub := opd_int0 fun i j H => .int _
def fMul := fInt (fun i j => i.natAbs.log2 + j.natAbs.log2 < 1000000) fun i j => .int (i * j)
theorem opd_mul {K : PySem.W.Frag} : OpD K (rI CMulW fun i j => .int (i * j)) fMul := opd_int fun i j H => .int _
/-- one factor small -/
def fMulS := fInt (fun i j => (-(2 ^ 64) < i ∧ i < 2 ^ 64) ∨ (-(2 ^ 64) < j ∧ j < 2 ^ 64)) fun i j => .int (i * j)
theorem opd_mulS {K : PySem.W.Frag} : OpD K (rI CMul fun i j => .int (i * j)) fMulS := opd_int fun i j H => .int _
def fMod := fInt (fun _ j => 0 < j) fun i j => .int (i % j)
theorem opd_mod {K : PySem.W.Frag} : OpD K (rI (fun _ j => 0 < j) fun i j => .int (i % j)) fMod := opd_int fun i j H => .int _
def CDivX (_ j : Int) : Prop := j ≠ 0 ∧ j.natAbs.log2 < 9000
theorem op_fdivX {X : Cx} : OpR X (binaryOp .FloorDiv) (rI CDivX fun i j => .int (i.fdiv j)) := opI fun i j _ _ _ _ _ hc q => PyProof.Rows.floordiv_int hc.1 q (.inl (PyProof.noPylong_of_log2 hc.2))
def fDiv := fInt CDivX fun i j => .int (i.fdiv j)
theorem opd_div {K : PySem.W.Frag} : OpD K (rI CDivX fun i j => .int (i.fdiv j)) fDiv := opd_int fun i j H => .int _
def fPow := fInt (fun i j => 0 ≤ j ∧ j ≤ 1000000 ∧ i.natAbs < 2 ^ 64) fun i j => .int (i ^ j.toNat)
theorem opd_pow {K : PySem.W.Frag} : OpD K (rI CPow fun i j => .int (i ^ j.toNat)) fPow := opd_int fun i j H => .int _
def fLt := fInt0 fun i j => .bool (decide (i < j))
def fLe := fInt0 fun i j => .bool (decide (i ≤ j))
def fGt := fInt0 fun i j => .bool (decide (j < i))
def fGe := fInt0 fun i j => .bool (decide (j ≤ i))
theorem opd_lt {K : PySem.W.Frag} : OpD K (rI0 fun i j => .bl (decide (i < j))) fLt := opd_int0 fun i j H => .bl _
theorem opd_le {K : PySem.W.Frag} : OpD K (rI0 fun i j => .bl (decide (i ≤ j))) fLe := opd_int0 fun i j H => .bl _
theorem opd_gt {K : PySem.W.Frag} : OpD K (rI0 fun i j => .bl (decide (j < i))) fGt := opd_int0 fun i j H => .bl _
theorem opd_ge {K : PySem.W.Frag} : OpD K (rI0 fun i j => .bl (decide (j ≤ i))) fGe := opd_int0 fun i j H => .bl _
def fEq : PyData → PyData → DQ → Prop := fun x y Q => SeqAt.shaped x = true ∧ SeqAt.shaped y = true ∧ Q (.bool (PyData.eqv x y))
def fNe : PyData → PyData → DQ → Prop := fun x y Q => SeqAt.shaped x = true ∧ SeqAt.shaped y = true ∧ Q (.bool (!PyData.eqv x y))
theorem opd_eq {K : PySem.W.Frag} : OpD K (rEqD K) fEq := fun B H F x y dx dy Qd Q fo hx hy w ok =>
  ⟨dx, dy, hs_dp dx x (dpm fo.fh dx x hx), hs_dp dy y (dpm fo.fh dy y hy), w.1, w.2.1, ok _ H F _ fo.refl (.bl _) w.2.2⟩
theorem opd_ne {K : PySem.W.Frag} : OpD K (rNeD K) fNe := fun B H F x y dx dy Qd Q fo hx hy w ok =>
  ⟨dx, dy, hs_dp dx x (dpm fo.fh dx x hx), hs_dp dy y (dpm fo.fh dy y hy), w.1, w.2.1, ok _ H F _ fo.refl (.bl _) w.2.2⟩
def fNeg : PyData → DQ → Prop := fun x Q => match x with
  | .int i => Q (.int (-i))
  | _ => False
theorem und_neg {K : PySem.W.Frag} : UnD K (rU fun i => .int (-i)) fNeg := by
  intro B H F x dx Qd Q fo hx w ok
  unfold fNeg at w
  split at w
  · rename_i i
    exact ⟨i, dp_int hx, ok _ H F _ fo.refl (.int _) w⟩
  · exact w.elim
/-- xs[i], of lists and tuples -/
def fIx : PyData → PyData → DQ → Prop := fun x y Q => match x, y with
  | .list ds, .int i => ∃ d, atI ds i = some d ∧ Q d
  | .tuple ds, .int i => ∃ d, atI ds i = some d ∧ Q d
  | .str z, .int i => ∃ c, z.length ≤ 16777216 ∧ atI z.cps.toList i = some c ∧ Q (.str ⟨#[c]⟩)
  | _, _ => False
theorem atI_hs {K : PySem.W.Frag} {F : Hp} {vs : List V} {ds : List PyData} {i : Int} {d : PyData} (h : HsA K F vs ds) (e : atI ds i = some d) : ∃ v, atI vs i = some v ∧ Hs K F v d := by
  unfold atI at e ⊢
  rw [dpA_len h]
  cases q : ixN ds.length i with
  | none => rw [q] at e; cases e
  | some j =>
    rw [q] at e
    obtain ⟨v, hv, hd⟩ := dpA_of h e
    exact ⟨v, hv, hd⟩
theorem opd_ix {K : PySem.W.Frag} : OpD K (rIx K) fIx := by
  intro B H F x y dx dy Qd Q fo hx hy w ok
  unfold fIx at w
  split at w
  · rename_i ds i
    obtain ⟨d, e, w⟩ := w
    cases hx with
    | @lst a xs _ hl ha =>
      obtain ⟨v, hv, hd⟩ := atI_hs ha e
      exact .inl ⟨a, xs, i, v, rfl, dp_int hy, Evl.sq_of (fo.fh _ _ hl), hv, ok v H F d fo.refl hd w⟩
  · rename_i ds i
    obtain ⟨d, e, w⟩ := w
    cases hx with
    | @tup a xs _ hl ha =>
      obtain ⟨v, hv, hd⟩ := atI_hs ha e
      exact .inr (.inl ⟨a, xs, i, v, rfl, dp_int hy, Evl.ex_t fo.fh hl, hv, ok v H F d fo.refl hd w⟩)
  · rename_i z i
    obtain ⟨c, hz, e, w⟩ := w
    exact .inr (.inr ⟨z, i, c, dp_str hx, dp_int hy, line_le hz, e, ok _ H F _ fo.refl (.str _) w⟩)
  · exact w.elim
/-- + of ints, texts, lists, tuples -/
def fAdd : PyData → PyData → DQ → Prop := fun x y Q => match x, y with
  | .int i, .int j => Q (.int (i + j))
  | .list xs, .list ys => xs.length + ys.length ≤ 16777216 ∧ Q (.list (xs ++ ys))
  | .tuple xs, .tuple ys => xs.length + ys.length ≤ 16777216 ∧ Q (.tuple (xs ++ ys))
  | _, _ => False
theorem opr_or {X : Cx} {f : Value → Value → Sem Value} {r r' : R2} (h : OpR X f r) (h' : OpR X f r') : OpR X f (fun x y H Q => r x y H Q ∨ r' x y H Q) := by
  intro pins s σ H x y v u Q I rx ry q
  rcases q with q | q
  · exact h pins s σ H x y v u Q I rx ry q
  · exact h' pins s σ H x y v u Q I rx ry q
def rAddA (K : PySem.W.Frag) : R2 := fun x y H Q => (rI0 fun i j => .int (i + j)) x y H Q ∨ (rCat x y H Q ∨ rCatA K x y H Q)
theorem op_addA {X : Cx} : OpR X (binaryOp .Add) (rAddA X.K) := opr_or op_add (opr_or op_cat op_catA)
theorem opd_add {K : PySem.W.Frag} : OpD K (rAddA K) fAdd := by
  intro B H F x y dx dy Qd Q fo hx hy w ok
  unfold fAdd at w
  split at w
  · rename_i i j
    exact .inl ⟨i, j, dp_int hx, dp_int hy, ok _ H F _ fo.refl (.int _) w⟩
  · rename_i xs ys
    cases hx with
    | @lst a us _ hl ha =>
      cases hy with
      | @lst b ws _ hl2 ha2 =>
        refine .inr (.inl ⟨a, b, us, ws, rfl, rfl, fo.fh _ _ hl, fo.fh _ _ hl2, line_le (by rw [dpA_len ha, dpA_len ha2]; exact w.1), fun p hp => ?_⟩)
        have ef := Evl.Ex.new (o := .lst (us ++ ws)) (fo.fnone hp)
        exact ok (.ref p) _ _ _ (fo.alloc hp) (.lst upd_same (dpmA ef _ _ (dpA_app ha ha2))) w.2
  · rename_i xs ys
    cases hx with
    | @tup a us _ hl ha =>
      cases hy with
      | @tup b ws _ hl2 ha2 =>
        refine .inr (.inr ⟨a, b, us, ws, rfl, rfl, Evl.ex_t fo.fh hl, Evl.ex_t fo.fh hl2, line_le (by rw [dpA_len ha, dpA_len ha2]; exact w.1), fun e => ?_, fun _ e => ?_, fun _ _ p hp => ?_⟩)
        · subst e
          cases ha
          exact ok (.ref b) H F _ fo.refl (.tup hl2 ha2) w.2
        · subst e
          cases ha2
          exact ok (.ref a) H F _ fo.refl (.tup hl ha) (by simpa using w.2)
        · have ef := Evl.Ex.new (o := .tup (us ++ ws)) (fo.fnone hp)
          exact ok (.ref p) _ _ _ (fo.alloc hp) (.tup (Evl.st_of upd_same) (dpmA ef _ _ (dpA_app ha ha2))) w.2
  · exact w.elim
end Hw
-- HwC
set_option Elab.async false
set_option linter.all false
set_option maxRecDepth 100000
set_option maxHeartbeats 2000000
namespace Hw
open PySem L2
/-! ### slots: cells, more slots, wiped slots -/
section
variable {K : PySem.W.Frag} {B : Bs} {H F H1 F1 : Hp} {σ : List (Option V)} {env : List Sl}
/-- a list of one's own is changed -/
theorem SO.setC (o : SO K B σ H F env) {i : Nat} {xs : List PyData} {a : Addr} (hi : env[i]? = some (.cell xs)) (ha : σ[i]? = some (some (.ref a))) {vs : List V} {ds : List PyData} (hv : HsA K F vs ds) :
    SO K B σ (upd H a (.lst vs)) F (env.set i (.cell ds)) := by
  obtain ⟨a', ws, e, hf, h0, hh, hd, hp⟩ := o.slots i _ hi
  rw [ha] at e
  cases e
  refine ⟨⟨fun b x h => ?_, o.fo.f0, o.fo.fresh, fun b x h hm => ?_, fun b h => ?_, fun q l e => ?_⟩, by rw [List.length_set]; exact o.len, fun j s hs => ?_, fun j k ys zs ad h1 h2 h3 h4 => ?_⟩
  · have nb : b ≠ a := ne_of_none h hf
    rw [upd_ne nb]; exact o.fo.fh b x h
  · have nb : b ≠ a := ne_of_none h h0
    rw [upd_ne nb]; exact o.fo.keep b x h hm
  · by_cases nb : b = a
    · subst nb; rw [upd_same] at h; cases h
    · rw [upd_ne nb] at h; exact o.fo.dom b h
  · obtain ⟨⟨f1, f2, ne, a1, b1, c1, n1, xs1, g1, g2⟩, m⟩ := o.fo.pool q l e
    have z := hp q l e
    exact ⟨⟨f1, f2, ne, a1, b1, c1, n1, xs1, by rw [upd_ne (Ne.symm z.1)]; exact g1, by rw [upd_ne (Ne.symm z.2)]; exact g2⟩, m⟩
  · rw [getset] at hs
    by_cases ej : i = j
    · subst ej
      rw [if_pos rfl] at hs
      split at hs
      · cases hs
        exact ⟨a, vs, ha, hf, h0, upd_same, hv, hp⟩
      · cases hs
    · rw [if_neg ej] at hs
      have h := o.slots j s hs
      cases s with
      | un => exact h
      | val d => exact h
      | pool => exact h
      | exc a3 c dd xd =>
        obtain ⟨e, ec, d, fs, ed, hd', hf', ha'⟩ := h
        refine ⟨e, ec, d, fs, ed, ?_, hf', ha'⟩
        rw [upd_ne]
        · exact hd'
        · intro z
          subst z
          rw [hh] at hd'; cases hd'
      | cell ys =>
        obtain ⟨a2, vs2, e2, hf2, h02, hh2, hd2, hp2⟩ := h
        have n2 : a2 ≠ a := by
          intro z
          subst z
          exact ej (o.apart i j xs ys a2 hi hs ha e2)
        exact ⟨a2, vs2, e2, hf2, h02, by rw [upd_ne n2]; exact hh2, hd2, hp2⟩
  · rw [getset] at h1 h2
    by_cases ea : i = j
    · by_cases eb : i = k
      · rw [← ea, ← eb]
      · rw [if_neg eb] at h2
        subst ea
        exact o.apart i k xs zs ad hi h2 h3 h4
    · rw [if_neg ea] at h1
      by_cases eb : i = k
      · subst eb
        exact o.apart j i ys xs ad h1 hi h3 h4
      · rw [if_neg eb] at h2
        exact o.apart j k ys zs ad h1 h2 h3 h4
theorem SO.ext (o : SO K B σ H F env) {a : Addr} {vs : List V} {ds : List PyData} (hf : F a = none) (h0 : B.H0 a = none) (hh : H a = some (.lst vs)) (hd : HsA K F vs ds)
    (hp : ∀ p l, B.pl = some (p, l) → a ≠ p ∧ a ≠ l) (hn : ∀ (j : Nat) (xs : List PyData), env[j]? = some (.cell xs) → σ[j]? = some (some (.ref a)) → False) : SO K B (σ ++ [some (.ref a)]) H F (env ++ [.cell ds]) := by
  have l := o.len
  refine ⟨o.fo, by simp [l], fun j s hs => ?_, fun j k xs ys ad h1 h2 h3 h4 => ?_⟩
  · by_cases hj : j < env.length
    · rw [List.getElem?_append_left hj] at hs
      rw [List.getElem?_append_left (by omega)]
      exact o.slots j s hs
    · have e : j = env.length := by
        have := (List.getElem?_eq_some_iff.mp hs).1
        simp at this
        omega
      subst e
      rw [List.getElem?_append_right (Nat.le_refl _)] at hs
      rw [List.getElem?_append_right (by omega)]
      simp at hs
      subst hs
      exact ⟨a, vs, by simp [l], hf, h0, hh, hd, hp⟩
  · have cs : ∀ {j : Nat} {xs : List PyData}, (env ++ [Sl.cell ds])[j]? = some (.cell xs) → (σ ++ [some (V.ref a)])[j]? = some (some (.ref ad)) → (env[j]? = some (.cell xs) ∧ σ[j]? = some (some (.ref ad))) ∨ (j = env.length ∧ ad = a) := fun {j xs} h1 h3 => by
      by_cases hj : j < env.length
      · rw [List.getElem?_append_left hj] at h1
        rw [List.getElem?_append_left (by omega)] at h3
        exact .inl ⟨h1, h3⟩
      · have e : j = env.length := by
          have := (List.getElem?_eq_some_iff.mp h1).1
          simp at this
          omega
        subst e
        rw [List.getElem?_append_right (by omega)] at h3
        simp [l] at h3
        exact .inr ⟨rfl, h3.symm⟩
    rcases cs h1 h3 with ⟨g1, g3⟩ | ⟨e1, e3⟩
    · rcases cs h2 h4 with ⟨g2, g4⟩ | ⟨e2, e4⟩
      · exact o.apart j k xs ys ad g1 g2 g3 g4
      · subst e4
        exact (hn j xs g1 g3).elim
    · rcases cs h2 h4 with ⟨g2, g4⟩ | ⟨e2, e4⟩
      · subst e3
        exact (hn k ys g2 g4).elim
      · rw [e1, e2]
theorem SO.unext {x : Option V} {s : Sl} (o : SO K B (σ ++ [x]) H F (env ++ [s])) : SO K B σ H F env := by
  have l : env.length = σ.length := by have := o.len; simp at this; exact this
  refine ⟨o.fo, l, fun j t hs => ?_, fun j k xs ys ad h1 h2 h3 h4 => ?_⟩
  · have hj := (List.getElem?_eq_some_iff.mp hs).1
    have h := o.slots j t (by rw [List.getElem?_append_left hj]; exact hs)
    rw [List.getElem?_append_left (by omega)] at h
    exact h
  · have hj := (List.getElem?_eq_some_iff.mp h1).1
    have hk := (List.getElem?_eq_some_iff.mp h2).1
    exact o.apart j k xs ys ad (by rw [List.getElem?_append_left hj]; exact h1) (by rw [List.getElem?_append_left hk]; exact h2) (by rw [List.getElem?_append_left (by omega)]; exact h3) (by rw [List.getElem?_append_left (by omega)]; exact h4)
end
def wipeE (env : List Sl) : List Nat → List Sl
  | [] => env
  | v :: vs => (wipeE env vs).set v .un
theorem SO.wipe {K : PySem.W.Frag} {B : Bs} {H F : Hp} {σ : List (Option V)} {env : List Sl} (o : SO K B σ H F env) : ∀ vs : List Nat, SO K B (L2.wipe σ vs) H F (wipeE env vs)
  | [] => o
  | v :: vs => (SO.wipe o vs).drop v none
theorem wipe_get (σ : List (Option V)) (i : Nat) : ∀ vs : List Nat, (wipe σ vs)[i]? = if i ∈ vs then (if i < σ.length then some none else none) else σ[i]?
  | [] => by simp [wipe]
  | v :: vs => by
    unfold wipe
    rw [getset, wipe_length, wipe_get σ i vs]
    by_cases h : v = i
    · subst h
      by_cases h2 : v ∈ vs
      · simp [h2]
      · simp [h2]
    · have h' : ¬ i = v := fun e => h e.symm
      by_cases h2 : i ∈ vs
      · simp [h, h', h2]
      · simp [h, h', h2]
theorem wipe_wipe (σ : List (Option V)) (vs : List Nat) : wipe (wipe σ vs) vs = wipe σ vs := by
  apply List.ext_getElem?
  intro i
  rw [wipe_get, wipe_get, wipe_length]
  by_cases h : i ∈ vs
  · simp [h]
  · simp [h]
theorem wipe_set {σ : List (Option V)} {vs : List Nat} {j : Nat} {x : Option V} (h : j ∈ vs) : wipe (σ.set j x) vs = wipe σ vs := by
  apply List.ext_getElem?
  intro i
  rw [wipe_get, wipe_get, List.length_set]
  by_cases hi : i ∈ vs
  · simp [hi]
  · have e : ¬ j = i := fun e => hi (e ▸ h)
    rw [if_neg hi, if_neg hi, getset, if_neg e]
/-- several slots are given values -/
def setsS (σ : List (Option V)) : List Nat → List V → List (Option V)
  | j :: js, v :: vs => setsS (σ.set j (some v)) js vs
  | _, _ => σ
def setsE (env : List Sl) : List Nat → List PyData → List Sl
  | j :: js, d :: ds => setsE (env.set j (.val d)) js ds
  | _, _ => env
theorem SO.sets {K : PySem.W.Frag} {B : Bs} {H F : Hp} : ∀ (js : List Nat) (σ : List (Option V)) (env : List Sl) (vs : List V) (ds : List PyData), SO K B σ H F env → HsA K F vs ds → SO K B (setsS σ js vs) H F (setsE env js ds)
  | [], _, _, _, _, o, h => by cases h <;> exact o
  | j :: js, σ, env, vs, ds, o, h => by
    cases h with
    | nil => exact o
    | cons h1 h2 => exact SO.sets js (σ.set j (some _)) (env.set j (.val _)) _ _ (o.put j h1) h2
theorem wipe_sets {vs : List Nat} : ∀ {js : List Nat} {σ : List (Option V)} {us : List V}, (∀ j ∈ js, j ∈ vs) → wipe (setsS σ js us) vs = wipe σ vs
  | [], _, us, _ => by cases us <;> rfl
  | j :: js, σ, [], _ => rfl
  | j :: js, σ, u :: us, h => by
    show wipe (setsS (σ.set j (some u)) js us) vs = wipe σ vs
    rw [wipe_sets fun k hk => h k (List.mem_cons_of_mem _ hk), wipe_set (h j List.mem_cons_self)]
/-- a target that stores the data wb d in the slots js -/
def Bnd (K : PySem.W.Frag) (g : TG) (js : List Nat) (wb : PyData → Option (List PyData)) : Prop :=
  ∀ (σ : List (Option V)) (H F : Hp) (v : V) (d : PyData) (ds : List PyData) (Q : List (Option V) → Hp → Prop), Ex F H → Hs K F v d → wb d = some ds → (∀ vs, HsA K F vs ds → Q (setsS σ js vs) H) → g v σ H Q
def bName : PyData → Option (List PyData) := fun d => some [d]
def bTup (n : Nat) : PyData → Option (List PyData) := fun d => match d with
  | .tuple ds => if ds.length = n then some ds else none
  | _ => none
theorem bnd_name {K : PySem.W.Frag} {j : Nat} : Bnd K (gName j) [j] bName := fun σ H F v d ds Q _ h e q => by
  unfold bName at e
  cases e
  exact q [v] (.cons h .nil)
def gNs : List Nat → TGs
  | [] => gNil
  | j :: r => gCons (gName j) (gNs r)
theorem gNs_run {H : Hp} : ∀ {js : List Nat} {σ : List (Option V)} {vs : List V} {Q : List (Option V) → Hp → Prop}, vs.length = js.length → Q (setsS σ js vs) H → gNs js vs σ H Q
  | [], σ, [], Q, _, q => ⟨rfl, q⟩
  | j :: js, σ, v :: vs, Q, l, q => ⟨v, vs, rfl, gNs_run (by simpa using l) q⟩
  | [], _, _ :: _, _, l, _ => by simp at l
  | _ :: _, _, [], _, l, _ => by simp at l
theorem bnd_tup {K : PySem.W.Frag} {js : List Nat} {n : Nat} (hn : js.length = n) : Bnd K (gTup K n (gNs js)) js (bTup n) := fun σ H F v d ds Q ex h e q => by
  unfold bTup at e
  split at e
  · split at e
    · rename_i hl
      cases e
      cases h with
      | @tup a xs _ hs ha =>
        have hx : xs.length = n := by rw [dpA_len ha]; exact hl
        exact ⟨a, xs, rfl, Evl.ex_t ex hs, hx, gNs_run (by rw [hx, hn]) (q xs ha)⟩
    · cases e
  · cases e

/-! ### what is walked -/
def Yl (K : PySem.W.Frag) (J : It) (F : Hp) (ds : List PyData) : Prop := ∀ (B : Bs) (H1 F1 : Hp) (i : Nat), FO B H1 F1 → Ex F F1 → i ≤ ds.length →
  (i < ds.length → J.go i H1) ∧ (i = ds.length → J.stop i H1) ∧ ∀ v H2, J.yld i H1 v H2 → i < ds.length → ∃ F2 d, ds[i]? = some d ∧ FO (stp B F1 H1) H2 F2 ∧ Hs K F2 v d
abbrev WI := List Sl → (List PyData → Prop) → XQ → Prop
def LI (K : PySem.W.Frag) (W : WX) (w : WI) : TI := fun σ H R => ∃ B F env Qd Xd, SO K B σ H F env ∧ w env Qd Xd ∧ (∀ J H' F' ds, FO (stp B F H) H' F' → Yl K J F' ds → Qd ds → R J H') ∧ OkX K B F H σ Xd W
def PId (X : Cx) (W : WX) (tg iter : Expr) (w : WI) : Prop := PI X tg iter (LI X.K W w)
theorem pi_imp {X : Cx} {tg e : Expr} {t t' : TI} (h : PI X tg e t) (i : ∀ σ H R, t' σ H R → t σ H R) : PI X tg e t' := ⟨fun pins s σ H R I q => h.run pins s σ H R I (i σ H R q)⟩
theorem yl_list {K : PySem.W.Frag} {F : Hp} {a : Addr} {vs : List V} {ds : List PyData} (h : F a = some (.lst vs)) (hd : HsA K F vs ds) : Yl K (Itl K a) F ds := fun B H1 F1 i fo ex hi => by
  have hq : SqL K H1 a vs := Evl.sq_of (fo.fh _ _ (ex _ _ h))
  have l := dpA_len hd
  refine ⟨fun hlt => ?_, fun e => ⟨vs, hq, by omega⟩, fun v H2 hy hlt => ?_⟩
  · exact ⟨vs, vs[i], hq, List.getElem?_eq_getElem (by omega)⟩
  · obtain ⟨rfl, f⟩ := hy
    obtain ⟨d, e, hv⟩ := dpA_get (dpmA ex _ _ hd) (f vs hq)
    exact ⟨F1, d, e, fo.refl, hv⟩
theorem yl_tup {K : PySem.W.Frag} {F : Hp} {a : Addr} {vs : List V} {ds : List PyData} (h : SqT K F a vs) (hd : HsA K F vs ds) : Yl K (Itt K a) F ds := fun B H1 F1 i fo ex hi => by
  have hq : SqT K H1 a vs := Evl.ex_t fo.fh (Evl.ex_t ex h)
  have l := dpA_len hd
  refine ⟨fun hlt => ?_, fun e => ⟨vs, hq, by omega⟩, fun v H2 hy hlt => ?_⟩
  · exact ⟨vs, vs[i], hq, List.getElem?_eq_getElem (by omega)⟩
  · obtain ⟨rfl, f⟩ := hy
    obtain ⟨d, e, hv⟩ := dpA_get (dpmA ex _ _ hd) (f vs hq)
    exact ⟨F1, d, e, fo.refl, hv⟩
def rgD (lo : Int) (n : Nat) : List PyData := (List.range n).map fun i => .int (lo + (i : Nat))
theorem rgD_len (lo : Int) (n : Nat) : (rgD lo n).length = n := by simp [rgD]
theorem rgD_get {lo : Int} {n i : Nat} (h : i < n) : (rgD lo n)[i]? = some (.int (lo + (i : Nat))) := by simp [rgD, h]
theorem yl_range {K : PySem.W.Frag} {F : Hp} {lo : Int} {n : Nat} : Yl K (Itr lo n) F (rgD lo n) := fun B H1 F1 i fo ex hi => by
  rw [rgD_len] at hi ⊢
  refine ⟨fun h => h, fun e => Nat.le_of_eq e.symm, fun v H2 hy hlt => ?_⟩
  obtain ⟨rfl, rfl⟩ := hy
  exact ⟨F1, _, rgD_get hlt, fo.refl, .int _⟩
def zipD (xs ys : List PyData) : List PyData := (xs.zip ys).map fun p => .tuple [p.1, p.2]
theorem zipD_len (xs ys : List PyData) : (zipD xs ys).length = min xs.length ys.length := by simp [zipD]
theorem yl_zipT {K : PySem.W.Frag} {F : Hp} {a b : Addr} {vs us : List V} {ds es : List PyData} (h : SqT K F a vs) (hd : HsA K F vs ds) (h2 : SqT K F b us) (hd2 : HsA K F us es) : Yl K (RZ.ItzT K a b) F (zipD ds es) := fun B H1 F1 i fo ex hi => by
  have hq : SqT K H1 a vs := Evl.ex_t fo.fh (Evl.ex_t ex h)
  have hq2 : SqT K H1 b us := Evl.ex_t fo.fh (Evl.ex_t ex h2)
  have l := dpA_len hd
  have l2 := dpA_len hd2
  rw [zipD_len] at hi ⊢
  refine ⟨fun hlt => ?_, fun e => ⟨vs, us, hq, hq2, by omega⟩, fun v H2 hy hlt => ?_⟩
  · exact ⟨vs, us, vs[i]'(by omega), us[i]'(by omega), hq, hq2, List.getElem?_eq_getElem (by omega), List.getElem?_eq_getElem (by omega)⟩
  · obtain ⟨T, x, y, rfl, hT, rfl, f, f2⟩ := hy
    obtain ⟨d, e, hv⟩ := dpA_get (dpmA ex _ _ hd) (f vs hq)
    obtain ⟨d2, e2, hv2⟩ := dpA_get (dpmA ex _ _ hd2) (f2 us hq2)
    have ef := Evl.Ex.new (o := .tup [x, y]) (fo.fnone hT)
    refine ⟨upd F1 T (.tup [x, y]), .tuple [d, d2], ?_, fo.alloc hT, .tup (Evl.st_of upd_same) (dpmA ef _ _ (.cons hv (.cons hv2 .nil)))⟩
    simp [zipD, List.getElem?_zip_eq_some, e, e2]
def wSeqI (we : WE) : WI := fun env Q X => we env (fun d => match d with
  | .list ds => Q ds
  | .tuple ds => Q ds
  | _ => False) X
def wRng1 (wa : WE) : WI := fun env Q X => wa env (fun d => match d with
  | .int n => -(2 ^ 62) ≤ n ∧ n < 2 ^ 62 ∧ Q (rgD 0 n.toNat)
  | _ => False) X
def wZip (wa wb : WE) : WI := fun env Q X => wa env (fun d => wb env (fun e => match d, e with
  | .tuple xs, .tuple ys => Q (zipD xs ys)
  | _, _ => False) X) X
section
variable {X : Cx} {W : WX} {tg e e2 : Expr} {we we2 : WE} {pos p : Pos}
theorem pi_seqA {tl : TE} (hl : PE X e tl) : PI X tg e (fun σ H R => tl σ H fun x H1 => (∃ a, x = .ref a ∧ (∃ xs, SqL X.K H1 a xs) ∧ R (Itl X.K a) H1) ∨ ∃ a, x = .ref a ∧ (∃ xs, SqT X.K H1 a xs) ∧ R (Itt X.K a) H1) := by
  refine ⟨fun ps s σ H R I h => thn (hl.run ps s σ H _ I h) fun v s1 ⟨x, H1, I1, r1, q1⟩ => ?_⟩
  have fp : ∀ b ∈ [s1.heap.objs.size], FpOk X ps H1 b := fun b hb => by
    obtain rfl : b = s1.heap.objs.size := by simpa using hb
    exact I1.fpOk (Nat.le_refl _) (I1.hok.fresh (Nat.le_refl _))
  rcases q1 with ⟨a, e, ⟨xs, hq⟩, q⟩ | ⟨a, e, ⟨xs, hq⟩, q⟩
  · subst e; cases r1
    obtain ⟨its, rv, pl, hz⟩ := I1.list hq
    exact wpAny_pyIter_list pl.isList ⟨_, _, _, _, H1, rfl, I1.kept (t' := s1.toks) fun b o e => Heap.get?_push_of_some _ e, turn_list a _, ⟨_, Heap.get?_push_size _ rfl, rfl, rfl⟩, fp, q⟩
  · subst e; cases r1
    obtain ⟨its, rv, pt, hz⟩ := I1.tuple hq
    exact wpAny_pyIter_tuple (show s1.heap.IsTuple a its.toArray from pt) ⟨_, _, _, _, H1, rfl, I1.kept (t' := s1.toks) fun b o e => Heap.get?_push_of_some _ e, turn_tuple a _, ⟨_, Heap.get?_push_size _ rfl, rfl, rfl⟩, fp, q⟩
theorem pid_seq (h : PD X W e we) : PId X W tg e (wSeqI we) := by
  refine pi_imp (pi_seqA h) ?_
  rintro σ H R ⟨B, F, env, Qd, Xd, so, w, ok, okx⟩
  refine ⟨B, F, env, _, Xd, so, w, fun x H1 F1 dx s1 hx w1 => ?_, okx⟩
  try dsimp only at w1
  have fo := (so.step s1).fo
  split at w1
  · cases hx with
    | @lst a xs _ hl ha => exact .inl ⟨a, rfl, ⟨xs, Evl.sq_of (fo.fh _ _ hl)⟩, ok _ H1 F1 _ s1 (yl_list hl ha) w1⟩
  · cases hx with
    | @tup a xs _ hl ha => exact .inr ⟨a, rfl, ⟨xs, Evl.ex_t fo.fh hl⟩, ok _ H1 F1 _ s1 (yl_tup hl ha) w1⟩
  · exact w1.elim
theorem pid_rng1 (hg : Gl X "range") (hm : X.mg "range" = none) (h : PD X W e we) (hs : starEach [e] X.env = [(false, eval e X.env)] := by rfl) : PId X W tg (.Call (.Name "range" p) [e] [] pos) (wRng1 we) := by
  refine pi_imp (pi_range1 hg hm (pa_cons h pa_nil hs) hs) ?_
  rintro σ H R ⟨B, F, env, Qd, Xd, so, w, ok, okx⟩
  refine ⟨B, F, env, _, Xd, so, w, fun x H1 F1 dx s1 hx w1 => ?_, okx⟩
  try dsimp only at w1
  split at w1
  · rename_i n
    refine ⟨n, by rw [dp_int hx], w1.1, w1.2.1, ok _ H1 F1 _ s1 yl_range w1.2.2⟩
  · exact w1.elim
theorem pid_zip {elts : List Expr} {kk : Nat} {tpos : Pos} (hg : Gl X "zip") (hm : X.mg "zip" = none) (h : PD X W e we) (h2 : PD X W e2 we2)
    (hs : starEach [e, e2] X.env = (false, eval e X.env) :: starEach [e2] X.env := by rfl) (hs2 : starEach [e2] X.env = [(false, eval e2 X.env)] := by rfl) (hpl : (backTo pos (starEach [e2] X.env)).any (·.1) = false := by rfl) :
    PId X W (.Tuple elts kk tpos) (.Call (.Name "zip" p) [e, e2] [] pos) (wZip we we2) := by
  refine pi_imp (RZ.pi_zipA hg hm (pa_cons h (pa_cons h2 pa_nil hs2) hs) hs hpl) ?_
  rintro σ H R ⟨B, F, env, Qd, Xd, so, w, ok, okx⟩
  refine ⟨B, F, env, _, Xd, so, w, fun x H1 F1 dx s1 hx w1 => ?_, okx⟩
  refine ⟨B, F1, env, _, Xd, so.step s1, w1, fun y H2 F2 dy s2 hy w2 => ?_, okx.step s1⟩
  try dsimp only at w2
  have fo := ((so.step s1).step s2).fo
  have hx2 := dpm s2.f0 dx x hx
  split at w2
  · cases hx2 with
    | @tup a xs _ hl ha =>
      cases hy with
      | @tup b ys _ hl2 ha2 => exact ⟨a, b, xs, ys, rfl, .inr ⟨Evl.ex_t fo.fh hl, Evl.ex_t fo.fh hl2, ok _ H2 F2 _ (s1.trans s2) (yl_zipT hl ha hl2 ha2) w2⟩⟩
  · exact w2.elim

/-! ### comprehensions -/
abbrev W0 : WX := fun _ _ _ _ => False
def noC1 : Sl → Sl
  | .cell _ => .un
  | s => s
def noC (env : List Sl) : List Sl := env.map noC1
theorem noC_no {env : List Sl} {j : Nat} {xs : List PyData} (h : (noC env)[j]? = some (.cell xs)) : False := by
  unfold noC at h
  rw [List.getElem?_map] at h
  cases e : env[j]? with
  | none => rw [e] at h; cases h
  | some s =>
    rw [e] at h
    cases s <;> simp [noC1] at h
theorem wipe_no {env : List Sl} {j : Nat} {xs : List PyData} (hn : ∀ (j : Nat) (xs : List PyData), env[j]? = some (.cell xs) → False) : ∀ {vs : List Nat}, (wipeE env vs)[j]? = some (.cell xs) → False
  | [], h => hn j xs h
  | v :: vs, h => by
    unfold wipeE at h
    rw [getset] at h
    split at h
    · split at h <;> cases h
    · exact wipe_no hn h
theorem SO.rebase {K : PySem.W.Frag} {B : Bs} {H F : Hp} {σ : List (Option V)} {env : List Sl} (o : SO K B σ H F env) : SO K (stp B F H) σ H F (noC env) where
  fo := o.fo.refl
  len := by rw [noC, List.length_map]; exact o.len
  slots := fun i s hs => by
    unfold noC at hs
    rw [List.getElem?_map] at hs
    cases e : env[i]? with
    | none => rw [e] at hs; cases hs
    | some t =>
      rw [e] at hs
      have z := o.slots i t e
      cases t with
      | un => simp [noC1] at hs; subst hs; exact True.intro
      | cell xs => simp [noC1] at hs; subst hs; exact True.intro
      | val d => simp [noC1] at hs; subst hs; exact z
      | pool => simp [noC1] at hs; subst hs; exact z
      | exc a c dd x => simp [noC1] at hs; subst hs; exact z
  apart := fun i j xs ys a h1 _ _ _ => (noC_no h1).elim
def wLc (wi : WI) (js : List Nat) (wb : PyData → Option (List PyData)) (wt : WT) (we : WE) (vs : List Nat) : WE := fun env Q X => wi env (fun ds => ds.length ≤ 10000000 ∧ ∃ I : Nat → List PyData → Prop, I 0 [] ∧
  (∀ i d acc, ds[i]? = some d → acc.length ≤ i → I i acc → ∃ bs, wb d = some bs ∧
    wt (setsE (wipeE (noC env) vs) js bs) (fun b => (b = true → we (setsE (wipeE (noC env) vs) js bs) (fun x => I (i + 1) (acc ++ [x])) (fun _ => False)) ∧ (b = false → I (i + 1) acc)) (fun _ => False)) ∧
  ∀ acc, acc.length ≤ ds.length → I ds.length acc → Q (.list acc)) X
theorem set_last {α : Type} (l : List α) (x y : α) : (l ++ [x]).set l.length y = l ++ [y] := by simp
theorem lf_lc {K : PySem.W.Frag} {W : WX} {wi : WI} {g : TG} {js : List Nat} {wb : PyData → Option (List PyData)} {wt : WT} {we : WE} {vs : List Nat} (hg : Bnd K g js wb) (hjs : ∀ j ∈ js, j ∈ vs) (σ : List (Option V)) (H : Hp) (Q : VK)
    (h : LF K W (wLc wi js wb wt we vs) σ H Q) : tLc (LI K W wi) g (LT K W0 wt) (LE K W0 we) vs σ H Q := by
  obtain ⟨B, F, env, Qd, Xd, so, w, ok, okx⟩ := h
  refine ⟨B, F, env, _, Xd, so, w, fun J H1 F1 ds s1 yl w1 => ?_, okx⟩
  obtain ⟨hlen, I, I0, Is, Iq⟩ := w1
  intro D hD
  have so1 := so.step s1
  have fD : F1 D = none := so1.fo.fnone hD
  have hp : ∀ p l, B.pl = some (p, l) → D ≠ p ∧ D ≠ l := fun p l e => by
    obtain ⟨⟨_, _, _, a0, b0, c0, n0, xs0, g1, g2⟩, _⟩ := so1.fo.pool p l e
    exact ⟨(ne_of_none g1 hD).symm, (ne_of_none g2 hD).symm⟩
  have sb : SO K (stp B F1 H1) (wipe σ vs) H1 F1 (wipeE (noC env) vs) := so1.rebase.wipe vs
  have s2 : FO (stp (stp B F1 H1) F1 H1) (upd H1 D (.lst [])) F1 := sb.fo.lay hD
  have lw : (wipeE (noC env) vs).length = (wipe σ vs).length := sb.len
  have ncell : ∀ (j : Nat) (xs : List PyData), (wipeE (noC env) vs)[j]? = some (.cell xs) → False := fun j xs => wipe_no fun j xs => noC_no
  have sx : SO K (stp B F1 H1) (wipe σ vs ++ [some (.ref D)]) (upd H1 D (.lst [])) F1 (wipeE (noC env) vs ++ [.cell []]) := (sb.step s2).ext fD hD upd_same .nil hp fun j xs h _ => ncell j xs h
  -- what a state of the walk tells of the new list
  have atD : ∀ {H' F' : Hp} {acc : List PyData}, SO K (stp B F1 H1) (wipe σ vs ++ [some (.ref D)]) H' F' (wipeE (noC env) vs ++ [.cell acc]) → F' D = none ∧ ∃ us, H' D = some (.lst us) ∧ HsA K F' us acc := fun {H' F' acc} so' => by
    obtain ⟨a, us, e, hf, _, hh, hd, _⟩ := so'.slots (wipeE (noC env) vs).length (.cell acc) (by simp)
    have e' : (wipe σ vs ++ [some (V.ref D)])[(wipeE (noC env) vs).length]? = some (some (V.ref D)) := by rw [lw]; simp
    rw [e'] at e
    cases e
    exact ⟨hf, us, hh, hd⟩
  refine ⟨fun i m H' => m = ds.length - i ∧ i ≤ ds.length ∧ ∃ F' acc, SO K (stp B F1 H1) (wipe σ vs ++ [some (.ref D)]) H' F' (wipeE (noC env) vs ++ [.cell acc]) ∧ Ex F1 F' ∧ acc.length ≤ i ∧ I i acc,
    ⟨ds.length, by simp, Nat.zero_le _, F1, [], sx, Evl.Ex.refl _, Nat.le_refl _, I0⟩, ?_⟩
  rintro i m H' ⟨rfl, hi, F', acc, so', ex', la, Ii⟩
  obtain ⟨ygo, ystop, yyld⟩ := yl (stp B F1 H1) H' F' i so'.fo ex' hi
  by_cases hlt : i < ds.length
  · refine .inr ⟨ygo hlt, fun H' => ∃ F' acc, SO K (stp B F1 H1) (wipe σ vs ++ [some (.ref D)]) H' F' (wipeE (noC env) vs ++ [.cell acc]) ∧ Ex F1 F' ∧ acc.length ≤ i + 1 ∧ I (i + 1) acc, fun H2 h2 => ⟨ds.length - (i + 1), by omega, rfl, hlt, h2⟩, fun v H2 hy => ?_⟩
    obtain ⟨F2, d, ed, st, hv⟩ := yyld v H2 hy hlt
    obtain ⟨bs, hb, ht⟩ := Is i d acc ed la Ii
    have so2 := so'.step st
    refine hg (wipe σ vs) H2 F2 v d bs _ so2.fo.fh hv hb fun us hus => ⟨(wipe_sets hjs).trans (wipe_wipe σ vs), ?_⟩
    have so3 := so2.unext.sets js _ _ us bs hus
    refine ⟨stp B F1 H1, F2, _, _, _, so3, ht, fun b H3 F3 st3 hb3 => ?_, fun _ _ _ _ _ _ _ z => z.elim⟩
    cases b with
    | true =>
      refine iteT ?_
      refine ⟨stp B F1 H1, F3, _, _, _, so3.step st3, hb3.1 rfl, fun y H4 F4 dx st4 hy4 hI => ?_, fun _ _ _ _ _ _ _ z => z.elim⟩
      have so5 := (so2.step st3).step st4
      obtain ⟨_, ws, hw, hwa⟩ := atD so5
      refine ⟨ws, hw, Nat.lt_of_lt_of_le (by rw [dpA_len hwa]; omega : ws.length < 16777216) (line_le (Nat.le_refl _)), F4, acc ++ [dx], ?_, ex'.trans (st.f0.trans (st3.f0.trans st4.f0)), by simp; omega, hI⟩
      have so6 := so5.setC (i := (wipeE (noC env) vs).length) (xs := acc) (a := D) (by simp) (by rw [lw]; simp) (vs := ws ++ [y]) (ds := acc ++ [dx]) (dpA_app hwa (.cons hy4 .nil))
      rw [set_last] at so6
      exact so6
    | false =>
      refine iteF ?_
      exact ⟨F3, acc, so2.step st3, ex'.trans (st.f0.trans st3.f0), by omega, hb3.2 rfl⟩
  · obtain rfl : i = ds.length := by omega
    obtain ⟨fD', us, hh, hd⟩ := atD so'
    exact .inl ⟨ystop rfl, ok D us H' F' acc (s1.trans (show FO (stp B F1 H1) H' F' from so'.fo)) fD' (s1.dom D hD) hh hd (Iq acc la Ii)⟩
section
variable {X : Cx} {W : WX} {elt tg iter : Expr} {ifs : List Expr} {scope : Scope} {own : List (Str × Nat)} {pos : Pos} {wi : WI} {g : TG} {js : List Nat} {wb : PyData → Option (List PyData)} {wt : WT} {we : WE}
theorem pf_lc (hc : X.calm = true) (hN : X.N.Nodup) (hi : PId X W tg iter wi) (ok : BlkOk X.N X.env.scope scope own)
    (hg : ∀ (s : Shared) (H : Hp) (C : Addr) (cl : List (Str × Addr)) (fp : List Addr), PG (X.blk s H scope (compEnvC scope cl C X.env) fp) tg g) (hb : Bnd X.K g js wb) (hjs : ∀ j ∈ js, j ∈ own.map (·.2))
    (ht : ∀ (s : Shared) (H : Hp) (C : Addr) (cl : List (Str × Addr)) (fp : List Addr), PTs (X.blk s H scope (compEnvC scope cl C X.env) fp) ifs (LT X.K W0 wt))
    (he : ∀ (s : Shared) (H : Hp) (C : Addr) (cl : List (Str × Addr)) (fp : List Addr), PD (X.blk s H scope (compEnvC scope cl C X.env) fp) W0 elt we) (hs : ∀ x, foldedSetIterable iter X.env x = pure x := by intro _; rfl) :
    PF X W (.ListComp elt [⟨tg, iter, ifs, 0⟩] scope pos) (wLc wi js wb wt we (own.map (·.2))) := pe_imp (pe_lc (te := LE X.K W0 we) hc hN hi ok hg ht he hs) (lf_lc hb hjs)
def wYes : WT := fun _ Q _ => Q true
theorem pts_yes {X : Cx} : PTs X [] (LT X.K W0 wYes) := ⟨fun pins s σ H Q I h => by
  obtain ⟨B, F, env, Qd, Xd, so, w, ok, okx⟩ := h
  exact pts_nil.run pins s σ H Q I (ok true H F so.fo.refl w)⟩
end
end
end Hw
-- HwD
set_option Elab.async false
set_option linter.all false
set_option maxRecDepth 100000
set_option maxHeartbeats 2000000
namespace Hw
open PySem L2
/-! ### statements -/
structure WEnds where
  nx : List Sl → Prop
  rt : DQ
  bk : List Sl → Prop := fun _ => False
  ct : List Sl → Prop := fun _ => False
  xc : List Sl → XQ
abbrev WS := WEnds → List Sl → Prop
structure OkS (K : PySem.W.Frag) (B : Bs) (F : Hp) (W : WX) (Ed : WEnds) (D : Ends) : Prop where
  nx : ∀ σ' H' F' env', SO K B σ' H' F' env' → Ex F F' → Ed.nx env' → D.nx σ' H'
  bk : ∀ σ' H' F' env', SO K B σ' H' F' env' → Ex F F' → Ed.bk env' → D.bk σ' H'
  ct : ∀ σ' H' F' env', SO K B σ' H' F' env' → Ex F F' → Ed.ct env' → D.ct σ' H'
  rt : ∀ v H' F' d, FO B H' F' → Hs K F' v d → Ed.rt d → D.rt v H'
  xc : ∀ c dd σ' H' F' env' x, SO K B σ' H' F' env' → Ex F F' → XIs K F' H' c dd x → Ed.xc env' x → W c dd σ' H'
def LS (K : PySem.W.Frag) (W : WX) (w : WS) : TS := fun D σ H => ∃ B F env Ed, SO K B σ H F env ∧ w Ed env ∧ OkS K B F W Ed D
def PSd (X : Cx) (W : WX) (st : Stmt) (w : WS) : Prop := PS X st (LS X.K W w)
def PSsd (X : Cx) (W : WX) (st : List Stmt) (w : WS) : Prop := PSs X st (LS X.K W w)
theorem OkS.step {K : PySem.W.Frag} {B : Bs} {F F1 : Hp} {W : WX} {Ed : WEnds} {D : Ends} (h : OkS K B F W Ed D) (e : Ex F F1) : OkS K B F1 W Ed D :=
  ⟨fun σ' H' F' env' s x => h.nx σ' H' F' env' s (e.trans x), fun σ' H' F' env' s x => h.bk σ' H' F' env' s (e.trans x), fun σ' H' F' env' s x => h.ct σ' H' F' env' s (e.trans x), h.rt, fun c dd σ' H' F' env' x s ex => h.xc c dd σ' H' F' env' x s (e.trans ex)⟩
theorem OkS.okx {K : PySem.W.Frag} {B : Bs} {F H : Hp} {σ : List (Option V)} {env : List Sl} {W : WX} {Ed : WEnds} {D : Ends} (h : OkS K B F W Ed D) (so : SO K B σ H F env) : OkX K B F H σ (Ed.xc env) W :=
  fun c dd H' F' x s hx q => h.xc c dd σ H' F' env x (so.step s) s.f0 hx q
def wNext : WS := fun Ed env => Ed.nx env
def wSeq (a b : WS) : WS := fun Ed env => a { Ed with nx := b Ed } env
def wAsg (j : Nat) (w : WE) : WS := fun Ed env => w env (fun d => Ed.nx (env.set j (.val d))) (Ed.xc env)
def wAsgB (js : List Nat) (wb : PyData → Option (List PyData)) (w : WE) : WS := fun Ed env => w env (fun d => ∃ bs, wb d = some bs ∧ Ed.nx (setsE env js bs)) (Ed.xc env)
def wAsgC (j : Nat) (w : WE) : WS := fun Ed env => w env (fun d => match d with
  | .list ds => Ed.nx (env.set j (.cell ds))
  | _ => False) (Ed.xc env)
def wRet (w : WE) : WS := fun Ed env => w env Ed.rt (Ed.xc env)
def wRetN : WS := fun Ed _ => Ed.rt .none
def wExp (w : WE) : WS := fun Ed env => w env (fun _ => Ed.nx env) (Ed.xc env)
def wIfS (c : WT) (a b : WS) : WS := fun Ed env => c env (fun x => (x = true → a Ed env) ∧ (x = false → b Ed env)) (Ed.xc env)
def wBrk : WS := fun Ed env => Ed.bk env
def wCnt : WS := fun Ed env => Ed.ct env
/-- the list in slot j is frozen, then .. -/
def wFz (j : Nat) (w : WS) : WS := fun Ed env => match slot env j with
  | .cell ds => w Ed (env.set j (.val (.list ds)))
  | _ => False
def wFor (wi : WI) (js : List Nat) (wb : PyData → Option (List PyData)) (w : WS) : WS := fun Ed env => wi env (fun ds => ∃ I : Nat → List Sl → Prop, I 0 env ∧
  (∀ i d env', ds[i]? = some d → I i env' → ∃ bs, wb d = some bs ∧ w { Ed with nx := I (i + 1), ct := I (i + 1), bk := Ed.nx } (setsE env' js bs)) ∧ ∀ env', I ds.length env' → Ed.nx env') (Ed.xc env)
def wWhile (c : WT) (w : WS) : WS := fun Ed env => ∃ I : Nat → List Sl → Prop, (∃ m, I m env) ∧ ∀ m env', I m env' →
  c env' (fun x => (x = true → w { Ed with nx := fun e => ∃ m', m' < m ∧ I m' e, ct := fun e => ∃ m', m' < m ∧ I m' e, bk := Ed.nx } env') ∧ (x = false → Ed.nx env')) (Ed.xc env')
section
variable {X : Cx} {W : WX} {st : Stmt} {sts : List Stmt} {a b : WS} {e tg : Expr} {we : WE} {pos : Pos}
theorem psd_nil : PSsd X W [] wNext := by
  refine pss_imp pss_nil ?_
  rintro D σ H ⟨B, F, env, Ed, so, w, ok⟩
  exact ok.nx σ H F env so (Evl.Ex.refl _) w
theorem psd_cons (h1 : PSd X W st a) (h2 : PSsd X W sts b) : PSsd X W (st :: sts) (wSeq a b) := by
  refine pss_imp (pss_cons h1 h2) ?_
  rintro D σ H ⟨B, F, env, Ed, so, w, ok⟩
  exact ⟨B, F, env, _, so, w, fun σ' H' F' env' s ex h => ⟨B, F', env', Ed, s, h, ok.step ex⟩, ok.bk, ok.ct, ok.rt, ok.xc⟩
theorem psd_one (h1 : PSd X W st a) : PSsd X W [st] a := pss_one h1
theorem psd_fz (j : Nat) (h : PSsd X W sts a) : PSsd X W sts (wFz j a) := by
  refine pss_imp h ?_
  rintro D σ H ⟨B, F, env, Ed, so, w, ok⟩
  unfold wFz at w
  split at w
  · rename_i ds hs
    obtain ⟨F', ex, so'⟩ := so.freeze (slot_some hs (by simp))
    exact ⟨B, F', _, Ed, so', w, ok.step ex⟩
  · exact w.elim
theorem psd_set {i : Nat} {x : Str} {pos' : Pos} (hN : X.N.Nodup) (hi : X.N[i]? = some x) (hx : Loc X.env.scope x) (he : PD X W e we) (hs : swapsWith e (some (.Name x pos')) pos.line X.env = pure false := by rfl) (hf : X.fn x = true ∨ X.env.scope.names.lookup x = some .local := by first | exact .inl rfl | exact .inr rfl | assumption) :
    PSd X W (.Assign [.Name x pos'] e pos) (wAsg i we) := by
  refine ps_imp (ps_set hN hi hx he hs hf) ?_
  rintro D σ H ⟨B, F, env, Ed, so, w, ok⟩
  exact ⟨B, F, env, _, _, so, w, fun v H1 F1 d s1 hv q => ok.nx _ H1 F1 _ ((so.step s1).put i hv) s1.f0 q, ok.okx so⟩
theorem psd_setC {i : Nat} {x : Str} {pos' : Pos} (hN : X.N.Nodup) (hi : X.N[i]? = some x) (hx : Loc X.env.scope x) (he : PF X W e we) (hs : swapsWith e (some (.Name x pos')) pos.line X.env = pure false := by rfl) (hf : X.fn x = true ∨ X.env.scope.names.lookup x = some .local := by first | exact .inl rfl | exact .inr rfl | assumption) :
    PSd X W (.Assign [.Name x pos'] e pos) (wAsgC i we) := by
  refine ps_imp (ps_set hN hi hx he hs hf) ?_
  rintro D σ H ⟨B, F, env, Ed, so, w, ok⟩
  refine ⟨B, F, env, _, _, so, w, fun a vs H1 F1 ds s1 hf1 ha hh hd q => ?_, ok.okx so⟩
  refine ok.nx _ H1 F1 _ ((so.step s1).putC i hf1 (so.fo.dom a ha) hh hd (fun p l e => ?_) (fun j xs hj hs' => ?_)) s1.f0 q
  · obtain ⟨⟨_, _, _, a0, b0, c0, n0, xs0, g1, g2⟩, _⟩ := so.fo.pool p l e
    exact ⟨(ne_of_none g1 ha).symm, (ne_of_none g2 ha).symm⟩
  · obtain ⟨a', vs', e, _, _, hh', _⟩ := so.slots j _ hj
    rw [hs'] at e
    cases e
    rw [ha] at hh'
    cases hh'
theorem psd_ret (he : PD X W e we) : PSd X W (.Return (some e) pos) (wRet we) := by
  refine ps_imp (ps_ret he) ?_
  rintro D σ H ⟨B, F, env, Ed, so, w, ok⟩
  exact ⟨B, F, env, _, _, so, w, fun v H1 F1 d s1 hv q => ok.rt v H1 F1 d (so.step s1).fo hv q, ok.okx so⟩
theorem psd_retN : PSd X W (.Return none pos) wRetN := by
  refine ps_imp ps_retN ?_
  rintro D σ H ⟨B, F, env, Ed, so, w, ok⟩
  exact ok.rt .non H F .none so.fo .non w
theorem psd_expr (he : PD X W e we) (hs : swapsWith e none pos.line X.env = pure false := by rfl) : PSd X W (.Expr e pos) (wExp we) := by
  refine ps_imp (ps_expr he hs) ?_
  rintro D σ H ⟨B, F, env, Ed, so, w, ok⟩
  exact ⟨B, F, env, _, _, so, w, fun v H1 F1 d s1 hv q => ok.nx _ H1 F1 _ (so.step s1) s1.f0 q, ok.okx so⟩
theorem psd_if {c : Expr} {s1 s2 : List Stmt} {uc : WT} (hc : PTd X W c uc) (ha : PSsd X W s1 a) (hb : PSsd X W s2 b) : PSd X W (.If c s1 s2 pos) (wIfS uc a b) := by
  refine ps_imp (ps_if hc ha hb) ?_
  rintro D σ H ⟨B, F, env, Ed, so, w, ok⟩
  refine ⟨B, F, env, _, _, so, w, fun x H1 F1 s1 q => ?_, ok.okx so⟩
  cases x with
  | true => exact iteT ⟨B, F1, env, Ed, so.step s1, q.1 rfl, ok.step s1.f0⟩
  | false => exact iteF ⟨B, F1, env, Ed, so.step s1, q.2 rfl, ok.step s1.f0⟩
theorem psd_brk : PSd X W (.Break pos) wBrk := by
  refine ps_imp ps_break ?_
  rintro D σ H ⟨B, F, env, Ed, so, w, ok⟩
  exact ok.bk σ H F env so (Evl.Ex.refl _) w
theorem psd_cnt : PSd X W (.Continue pos) wCnt := by
  refine ps_imp ps_continue ?_
  rintro D σ H ⟨B, F, env, Ed, so, w, ok⟩
  exact ok.ct σ H F env so (Evl.Ex.refl _) w
theorem psd_for {iter : Expr} {body : List Stmt} {wi : WI} {g : TG} {js : List Nat} {wb : PyData → Option (List PyData)} (hp : PassesOwn (model X.prog X.w) X.A X.env X.xe) (hc : X.calm = true) (hi : PId X W tg iter wi) (hg : PG X tg g) (hbn : Bnd X.K g js wb) (hb : PSsd X W body a)
    (hs : ∀ x, foldedSetIterable iter X.env x = pure x := by intro _; rfl) : PSd X W (.For tg iter body [] pos) (wFor wi js wb a) := by
  refine ps_imp (ps_for hp hc hi hg hb hs) ?_
  rintro D σ H ⟨B, F, env, Ed, so, w, ok⟩
  refine ⟨B, F, env, _, _, so, w, fun J H1 F1 ds s1 yl w1 => ?_, ok.okx so⟩
  obtain ⟨I, I0, Is, Iq⟩ := w1
  refine ⟨fun i m σ' H' => m = ds.length - i ∧ i ≤ ds.length ∧ ∃ F' env', SO X.K B σ' H' F' env' ∧ Ex F1 F' ∧ I i env', ⟨ds.length, by simp, Nat.zero_le _, F1, env, so.step s1, Evl.Ex.refl _, I0⟩, ?_⟩
  rintro i m σ' H' ⟨rfl, hi, F', env', so', ex', Ii⟩
  obtain ⟨ygo, ystop, yyld⟩ := yl B H' F' i so'.fo ex' hi
  by_cases hlt : i < ds.length
  · refine .inr ⟨ygo hlt, fun σ' H' => ∃ F' env', SO X.K B σ' H' F' env' ∧ Ex F1 F' ∧ I (i + 1) env', fun σ2 H2 h2 => ⟨ds.length - (i + 1), by omega, rfl, hlt, h2⟩, fun v H2 hy => ?_⟩
    obtain ⟨F2, d, ed, st, hv⟩ := yyld v H2 hy hlt
    obtain ⟨bs, hb, ht⟩ := Is i d env' ed Ii
    have so2 := so'.step st
    refine hbn σ' H2 F2 v d bs _ so2.fo.fh hv hb fun us hus => ?_
    have so3 := so2.sets js _ _ us bs hus
    have ex2 : Ex F1 F2 := ex'.trans st.f0
    exact ⟨B, F2, _, _, so3, ht, fun σ3 H3 F3 env3 s3 x3 q => ⟨F3, env3, s3, ex2.trans x3, q⟩, fun σ3 H3 F3 env3 s3 x3 q => ok.nx σ3 H3 F3 env3 s3 ((s1.f0.trans ex2).trans x3) q, fun σ3 H3 F3 env3 s3 x3 q => ⟨F3, env3, s3, ex2.trans x3, q⟩, ok.rt, fun c dd σ3 H3 F3 env3 x s3 x3 => ok.xc c dd σ3 H3 F3 env3 x s3 ((s1.f0.trans ex2).trans x3)⟩
  · obtain rfl : i = ds.length := by omega
    exact .inl ⟨ystop rfl, ok.nx σ' H' F' env' so' (s1.f0.trans ex') (Iq env' Ii)⟩
theorem psd_while {c : Expr} {body : List Stmt} {uc : WT} (hp : PassesOwn (model X.prog X.w) X.A X.env X.xe) (hc : PTd X W c uc) (hb : PSsd X W body a) : PSd X W (.While c body [] pos) (wWhile uc a) := by
  refine ps_imp (ps_while hp hc hb) ?_
  rintro D σ H ⟨B, F, env, Ed, so, ⟨I, ⟨m0, I0⟩, Is⟩, ok⟩
  refine ⟨fun m σ' H' => ∃ F' env', SO X.K B σ' H' F' env' ∧ Ex F F' ∧ I m env', ⟨m0, F, env, so, Evl.Ex.refl _, I0⟩, ?_⟩
  rintro m σ' H' ⟨F', env', so', ex', Im⟩
  have h := Is m env' Im
  refine ⟨B, F', env', _, _, so', h, fun x H1 F1 s1 q => ?_, fun c dd H2 F2 x s hx q => ok.xc c dd σ' H2 F2 env' x (so'.step s) (ex'.trans s.f0) hx q⟩
  have ex1 : Ex F F1 := ex'.trans s1.f0
  cases x with
  | true =>
    refine ⟨fun σ2 H2 => ∃ m', m' < m ∧ ∃ F' env', SO X.K B σ2 H2 F' env' ∧ Ex F F' ∧ I m' env', fun σ2 H2 ⟨m', l, z⟩ => ⟨m', l, z⟩, ?_⟩
    exact ⟨B, F1, env', _, so'.step s1, q.1 rfl, fun σ3 H3 F3 env3 s3 x3 ⟨m', l, z⟩ => ⟨m', l, F3, env3, s3, ex1.trans x3, z⟩, fun σ3 H3 F3 env3 s3 x3 z => ok.nx σ3 H3 F3 env3 s3 (ex1.trans x3) z, fun σ3 H3 F3 env3 s3 x3 ⟨m', l, z⟩ => ⟨m', l, F3, env3, s3, ex1.trans x3, z⟩, ok.rt, fun c dd σ3 H3 F3 env3 x s3 x3 => ok.xc c dd σ3 H3 F3 env3 x s3 (ex1.trans x3)⟩
  | false => exact ok.nx σ' H1 F1 env' (so'.step s1) ex1 (q.2 rfl)
/-- x[i] = e, the list in slot j one's own -/
def wSetI (j : Nat) (wi we : WE) : WS := fun Ed env => match slot env j with
  | .cell ds => we env (fun d => wi env (fun di => match di with
    | .int k => ∃ j', ixN ds.length k = some j' ∧ Ed.nx (env.set j (.cell (ds.set j' d)))
    | _ => False) (Ed.xc env)) (Ed.xc env)
  | _ => False
theorem slot_cell {K : PySem.W.Frag} {B : Bs} {σ : List (Option V)} {H F : Hp} {env : List Sl} (so : SO K B σ H F env) {j : Nat} {ds : List PyData} (h : slot env j = .cell ds) : ∃ a vs, env[j]? = some (.cell ds) ∧ σ[j]? = some (some (.ref a)) ∧ H a = some (.lst vs) ∧ HsA K F vs ds := by
  have hj := slot_some h (by simp)
  obtain ⟨a, vs, e, _, _, hh, hd, _⟩ := so.slots j _ hj
  exact ⟨a, vs, hj, e, hh, hd⟩
theorem psd_setI {j : Nat} {wi : WE} (hb : PS X st (tAsg (LE X.K W we) (gSub (tVar j) (LE X.K W wi) rSetL))) : PSd X W st (wSetI j wi we) := by
  refine ps_imp hb ?_
  rintro D σ H ⟨B, F, env, Ed, so, w, ok⟩
  unfold wSetI at w
  split at w
  · rename_i ds hsl
    refine ⟨B, F, env, _, _, so, w, fun v H1 F1 d s1 hv1 w1 => ?_, ok.okx so⟩
    obtain ⟨a, vs, hj, e, _, _⟩ := slot_cell so hsl
    refine ⟨.ref a, e, B, F1, env, _, _, so.step s1, w1, fun iv H2 F2 di s2 hiv w2 => ?_, (ok.okx so).step s1⟩
    have so2 := (so.step s1).step s2
    obtain ⟨a', vs', hj', e', hh', hd'⟩ := slot_cell so2 hsl
    rw [e] at e'
    cases e'
    try dsimp only at w2
    split at w2
    · rename_i k
      obtain ⟨j', hk, q⟩ := w2
      refine ⟨a, vs', k, j', rfl, dp_int hiv, hh', by rw [dpA_len hd']; exact hk, ?_⟩
      exact ok.nx σ _ F2 _ (so2.setC hj e (dpA_set (dpm s2.f0 d v hv1) hd')) (s1.f0.trans s2.f0) q
    · exact w2.elim
  · exact w.elim
/-- x.append(e), the list in slot j one's own -/
def wApp (j : Nat) (we : WE) : WS := fun Ed env => match slot env j with
  | .cell ds => we env (fun d => ds.length < 16777216 ∧ Ed.nx (env.set j (.cell (ds ++ [d])))) (Ed.xc env)
  | _ => False
theorem psd_app (j : Nat) (hb : PS X st (tDrop (tBM X.K "list" rAppend (tVar j) (tCons (LE X.K W we) tNil)))) : PSd X W st (wApp j we) := by
  refine ps_imp hb ?_
  rintro D σ H ⟨B, F, env, Ed, so, w, ok⟩
  unfold wApp at w
  split at w
  · rename_i ds hsl
    obtain ⟨a, vs, hj, e, hh, hd⟩ := slot_cell so hsl
    refine ⟨.ref a, e, .inl ⟨rfl, vs, Evl.sq_of hh⟩, B, F, env, _, _, so, w, fun v H1 F1 d s1 hv1 w1 => ?_, ok.okx so⟩
    have so1 := so.step s1
    obtain ⟨a', vs', hj', e', hh', hd'⟩ := slot_cell so1 hsl
    rw [e] at e'
    cases e'
    refine ⟨a, vs', v, rfl, rfl, hh', ?_, ?_⟩
    · rw [dpA_len hd', sizeLine_eq]; exact w1.1
    · exact ok.nx σ _ F1 _ (so1.setC hj e (dpA_app hd' (.cons hv1 .nil))) s1.f0 w1.2
  · exact w.elim
/-- a tuple's parts given to several names -/
theorem psd_setB {g : TG} {js : List Nat} {wb : PyData → Option (List PyData)} (hps : PS X st (tAsg (LE X.K W we) g)) (hb : Bnd X.K g js wb) : PSd X W st (wAsgB js wb we) := by
  refine ps_imp hps ?_
  rintro D σ H ⟨B, F, env, Ed, so, w, ok⟩
  refine ⟨B, F, env, _, _, so, w, fun v H1 F1 d s1 hv1 w1 => ?_, ok.okx so⟩
  obtain ⟨bs, hbs, q⟩ := w1
  have so1 := so.step s1
  exact hb σ H1 F1 v d bs _ so1.fo.fh hv1 hbs fun us hus => ok.nx _ H1 F1 _ (so1.sets js _ _ us bs hus) s1.f0 q
/-- a, b = x, y -/
def wPar (i j : Nat) (wa : WA) : WS := fun Ed env => wa env (fun ss => match ss with
  | [.val d, .val d'] => Ed.nx ((env.set i (.val d)).set j (.val d'))
  | _ => False) (Ed.xc env)
theorem psd_par {i j : Nat} {wa : WA} (hb : PS X st (tPar i j (LA X.K W wa))) : PSd X W st (wPar i j wa) := by
  refine ps_imp hb ?_
  rintro D σ H ⟨B, F, env, Ed, so, w, ok⟩
  refine ⟨B, F, env, _, _, so, w, fun vs H1 F1 ss s1 hv1 w1 => ?_, ok.okx so⟩
  try dsimp only at w1
  split at w1
  · rename_i d d'
    match vs, hv1 with
    | [v, v'], hv1 => exact ⟨v, v', rfl, ok.nx _ H1 F1 _ (((so.step s1).put i hv1.1).put j hv1.2.1) s1.f0 w1⟩
    | [], hv1 => exact hv1.elim
    | [_], hv1 => exact hv1.2.elim
    | _ :: _ :: _ :: _, hv1 => exact hv1.2.2.elim
  · exact w1.elim
end

/-! ### defs -/
abbrev Ct := List Sl → DQ → XQ → Prop
def bsOf (pl : Option (Addr × Addr)) (F H : Hp) : Bs := ⟨F, H, plM pl, pl⟩
/-- a def's promise, by data -/
def spC (K : PySem.W.Frag) (n : Nat) (c : Ct) : Sp := fun vs H Q E => vs.length = n ∧ ∃ (pl : Option (Addr × Addr)) (F : Hp) (ss : List Sl) (Qd : DQ) (Xd : XQ), FO (bsOf pl F H) H F ∧ AOk K (bsOf pl F H) F vs ss ∧ c ss Qd Xd ∧
  (∀ v H' F' d, FO (bsOf pl F H) H' F' → Hs K F' v d → Qd d → Q v H') ∧ (∀ cc dd H' F' x, FO (bsOf pl F H) H' F' → XIs K F' H' cc dd x → Xd x → E cc dd H')
theorem aok_len {K : PySem.W.Frag} {B : Bs} {F : Hp} : ∀ {vs : List V} {ss : List Sl}, AOk K B F vs ss → vs.length = ss.length
  | [], [], _ => rfl
  | v :: vs, .val d :: ss, h => by simp [aok_len h.2]
  | v :: vs, .pool :: ss, h => by simp [aok_len h.2]
  | [], _ :: _, h => h.elim
  | _ :: _, [], h => h.elim
  | _ :: _, .un :: _, h => h.elim
  | _ :: _, .cell _ :: _, h => h.elim
  | _ :: _, .exc .. :: _, h => h.elim
theorem aok_pl {K : PySem.W.Frag} {B B' : Bs} {F : Hp} (e : B.pl = B'.pl) : ∀ {vs : List V} {ss : List Sl}, AOk K B F vs ss → AOk K B' F vs ss
  | [], [], _ => trivial
  | v :: vs, .val d :: ss, h => ⟨h.1, aok_pl e h.2⟩
  | v :: vs, .pool :: ss, h => ⟨by obtain ⟨p, l, q, r⟩ := h.1; exact ⟨p, l, e ▸ q, r⟩, aok_pl e h.2⟩
  | [], _ :: _, h => h.elim
  | _ :: _, [], h => h.elim
  | _ :: _, .un :: _, h => h.elim
  | _ :: _, .cell _ :: _, h => h.elim
  | _ :: _, .exc .. :: _, h => h.elim
def wCall (n : Nat) (c : Ct) (wa : WA) : WE := fun env Q X => wa env (fun ss => ss.length = n ∧ c ss Q X) X
theorem le_call {K : PySem.W.Frag} {W : WX} {n : Nat} {c : Ct} {wa : WA} (σ : List (Option V)) (H : Hp) (Q : VK) (h : LE K W (wCall n c wa) σ H Q) : tCallS (spC K n c) (L2.WE W) (LA K W wa) σ H Q := by
  obtain ⟨B, F, env, Qd, Xd, so, w, ok, okx⟩ := h
  refine ⟨B, F, env, _, Xd, so, w, fun vs H1 F1 ss s1 hv w1 => ?_, okx⟩
  exact ⟨by rw [aok_len hv]; exact w1.1, B.pl, F1, ss, Qd, Xd, (so.step s1).fo.refl, aok_pl (B := B) (B' := bsOf B.pl F1 H1) rfl hv, w1.2, fun v H' F' d p => ok v H' F' d (s1.trans p), fun cc dd H' F' x p => okx cc dd H' F' x (s1.trans p)⟩
section
variable {X : Cx} {W : WX} {e : Expr} {es : List Expr} {pos p : Pos} {x : Str} {f : Addr} {fd : FuncData} {ps : List Str} {n k : Nat} {c : Ct} {wa : WA}
theorem pd_call (tk : L2N.Takes X W) (F : FnOk X.prog X.w X.K X.mg X.base (L2N.CX X.prog X.w) k f fd ps (spC X.K n c)) (hr : Room k X.A) (hg : Gl X x) (hm : X.mg x = some (.ref f)) (hk : PySem.W.keepIn X.K (.ref f) = true) (hb : Binds X.K fd ps [])
    (ha : PAd X W (e :: es) wa) (hdb : (x == ("__debug__" : Str)) = false := by decide) (he : starEach (e :: es) X.env = (false, eval e X.env) :: starEach es X.env := by rfl) (hpl : (backTo pos (starEach es X.env)).any (·.1) = false := by rfl) :
    PD X W (.Call (.Name x p) (e :: es) [] pos) (wCall n c wa) :=
  pe_imp (pe_callS F hr hg hm hk hb (fun σ => L2N.passAt tk σ) ha hdb he hpl) le_call
theorem takesN0 {X : Cx} : L2N.Takes X W0 := fun _ _ ⟨_, _, _, _, _, _, _, _, _, _, _, _, _, _, _, _, z⟩ => z.elim
end
def endsOf (Qd : DQ) (Xd : XQ) : WEnds := { nx := fun _ => Qd .none, rt := Qd, xc := fun _ => Xd }
def startE (m : Nat) (ss : List Sl) : List Sl := ss ++ List.replicate (m - ss.length) .un
theorem so_start {K : PySem.W.Frag} {B : Bs} {H F : Hp} {N : List Str} {vs : List V} {ss : List Sl} (fo : FO B H F) (h : AOk K B F vs ss) : SO K B (L2.start N vs) H F (startE N.length ss) := by
  have l := aok_len h
  have main : ∀ {vs : List V} {ss : List Sl}, AOk K B F vs ss → ∀ (i : Nat) (s : Sl), ss[i]? = some s → SlOk K B H F s (vs.map some)[i]? ∧ ∀ xs, s ≠ .cell xs := by
    intro vs
    induction vs with
    | nil =>
      intro ss h i s e
      cases ss with
      | nil => simp at e
      | cons _ _ => exact h.elim
    | cons v vs ih =>
      intro ss h i s e
      cases ss with
      | nil => exact h.elim
      | cons t ss =>
        cases t with
        | val d =>
          cases i with
          | zero => simp at e; subst e; exact ⟨⟨v, by simp, h.1⟩, fun xs z => by cases z⟩
          | succ i => simpa using ih h.2 i s (by simpa using e)
        | pool =>
          cases i with
          | zero =>
            simp at e; subst e
            obtain ⟨⟨p, l, e1, e2⟩, _⟩ := h
            exact ⟨⟨p, l, e1, by simp [e2]⟩, fun xs z => by cases z⟩
          | succ i => simpa using ih h.2 i s (by simpa using e)
        | un => exact h.elim
        | cell _ => exact h.elim
        | exc _ _ _ _ => exact h.elim
  have get : ∀ (i : Nat) (s : Sl), (startE N.length ss)[i]? = some s → SlOk K B H F s (L2.start N vs)[i]? ∧ ∀ xs, s ≠ .cell xs := fun i s e => by
    unfold startE at e
    unfold L2.start
    by_cases hi : i < ss.length
    · rw [List.getElem?_append_left hi] at e
      rw [List.getElem?_append_left (by simpa [l] using hi)]
      exact main h i s e
    · rw [List.getElem?_append_right (by omega), List.getElem?_replicate] at e
      split at e
      · cases e
        exact ⟨True.intro, fun xs z => by cases z⟩
      · cases e
  exact ⟨fo, by simp [startE, L2.start, l], fun i s e => (get i s e).1, fun i j xs ys a h1 _ _ _ => ((get i _ h1).2 xs rfl).elim⟩
section
variable {P : Program} {w : World} {K : PySem.W.Frag} {mg : Str → Option Value} {base : Heap}
theorem fn_ok {x qual : Str} {st : Stmt} {f : Addr} {fd : FuncData} {N ps : List Str} {k n : Nat} {c : Ct} {wb : WS} (F : Fun K x qual st f fd) (S : FnScope N ps (defScope st)) (hn : ps.length = n)
    (hd : ∀ (cdv : Value) (A : Around) (outer : List Env) (s : Shared) (H : Hp) (E : XK), Room k (cxOf (L2N.CX P w) P w K mg base N qual (defScope st) f cdv A outer s H E).A → L2N.Takes (cxOf (L2N.CX P w) P w K mg base N qual (defScope st) f cdv A outer s H E) (fun cls d _ H => E cls d H) →
      PSsd (cxOf (L2N.CX P w) P w K mg base N qual (defScope st) f cdv A outer s H E) (fun cls d _ H => E cls d H) (defBody st) wb) (hw : ∀ ss Qd Xd, c ss Qd Xd → wb (endsOf Qd Xd) (startE N.length ss)) :
    FnOk P w K mg base (L2N.CX P w) (k + 1) f fd ps (spC K n c) := by
  obtain ⟨oc, od, kV, doc, pm, an, cdv, ct, osl, rfl, lk, hcd⟩ := F.ex
  refine fn_of lk hcd S (fun vs H Q E h => by rw [h.1, hn]) fun A outer s H vs Q E hr h => ?_
  obtain ⟨hl, pl, F0, ss, Qd, Xd, fo, ha, hc, hq, hx⟩ := h
  refine ⟨_, hd cdv A outer s H E hr (L2N.takes_of rfl rfl rfl rfl), ?_⟩
  refine ⟨bsOf pl F0 H, F0, startE N.length ss, endsOf Qd Xd, so_start fo ha, hw ss Qd Xd hc, ?_⟩
  exact ⟨fun σ' H' F' env' so _ q => hq .non H' F' .none so.fo .non q, fun _ _ _ _ _ _ z => z.elim, fun _ _ _ _ _ _ z => z.elim, hq, fun cc dd σ' H' F' env' x so _ hx' q => hx cc dd H' F' x so.fo hx' q⟩
end
end Hw
-- HwE
set_option Elab.async false
set_option linter.all false
set_option maxRecDepth 100000
set_option maxHeartbeats 2000000
namespace Hw
open PySem L2
/-! ### more built-ins by data -/
def fGcd : List PyData → DQ → Prop := fun ds Q => match ds with
  | [.int a, .int b] => Q (.int ((Nat.gcd a.natAbs b.natAbs : Nat) : Int))
  | _ => False
theorem cad_gcd {K : PySem.W.Frag} : CaD K rGcd fGcd := by
  intro B H F xs ds Qd Q fo hx w ok
  unfold fGcd at w
  split at w
  · rename_i a b
    cases hx with
    | cons h1 h2 =>
      cases h2 with
      | cons h2 h3 =>
        cases h3
        exact ⟨a, b, by rw [dp_int h1, dp_int h2], ok _ H F _ fo.refl (.int _) w⟩
  · exact w.elim
abbrev rLen (K : PySem.W.Frag) : List V → Hp → VK → Prop := fun xs H Q => ∃ x n, xs = [x] ∧ LenV K x H n ∧ Q (.int n) H
def fLen : List PyData → DQ → Prop := fun ds Q => match ds with
  | [.list xs] => Q (.int (xs.length : Nat))
  | [.tuple xs] => Q (.int (xs.length : Nat))
  | [.str z] => z.length ≤ 16777216 ∧ Q (.int (z.length : Nat))
  | _ => False
theorem cad_len {K : PySem.W.Frag} : CaD K (rLen K) fLen := by
  intro B H F xs ds Qd Q fo hx w ok
  unfold fLen at w
  split at w
  · rename_i ys
    cases hx with
    | cons h1 h2 =>
      cases h2
      cases h1 with
      | @lst a vs _ hl ha => exact ⟨_, vs.length, rfl, .inl ⟨vs, Evl.sq_of (fo.fh _ _ hl), rfl⟩, ok _ H F _ fo.refl (.int _) (by rw [dpA_len ha]; exact w)⟩
  · rename_i ys
    cases hx with
    | cons h1 h2 =>
      cases h2
      cases h1 with
      | @tup a vs _ hl ha => exact ⟨_, vs.length, rfl, .inr ⟨vs, Evl.ex_t fo.fh hl, rfl⟩, ok _ H F _ fo.refl (.int _) (by rw [dpA_len ha]; exact w)⟩
  · rename_i z
    cases hx with
    | cons h1 h2 =>
      cases h2
      exact ⟨_, z.length, rfl, by rw [dp_str h1]; exact ⟨line_le w.1, rfl⟩, ok _ H F _ fo.refl (.int _) w.2⟩
  · exact w.elim
abbrev rAbs : List V → Hp → VK → Prop := fun xs H Q => ∃ i, xs = [.int i] ∧ Q (.int (if i < 0 then -i else i)) H
def fAbs : List PyData → DQ → Prop := fun ds Q => match ds with
  | [.int i] => Q (.int (i.natAbs : Nat))
  | _ => False
theorem abs_eq (i : Int) : (if i < 0 then -i else i) = ((i.natAbs : Nat) : Int) := by
  split <;> omega
theorem cad_abs {K : PySem.W.Frag} : CaD K rAbs fAbs := by
  intro B H F xs ds Qd Q fo hx w ok
  unfold fAbs at w
  split at w
  · rename_i i
    cases hx with
    | cons h1 h2 =>
      cases h2
      refine ⟨i, by rw [dp_int h1], ?_⟩
      rw [abs_eq]
      exact ok _ H F _ fo.refl (.int _) w
  · exact w.elim
abbrev rInt1 : List V → Hp → VK → Prop := fun xs H Q => (∃ i, xs = [.int i] ∧ Q (.int i) H) ∨ ∃ k, xs = [.bl k] ∧ Q (.int (if k then 1 else 0)) H
def fInt1 : List PyData → DQ → Prop := fun ds Q => match ds with
  | [.int i] => Q (.int i)
  | _ => False
theorem cad_int1 {K : PySem.W.Frag} : CaD K rInt1 fInt1 := by
  intro B H F xs ds Qd Q fo hx w ok
  unfold fInt1 at w
  split at w
  · rename_i i
    cases hx with
    | cons h1 h2 =>
      cases h2
      exact .inl ⟨i, by rw [dp_int h1], ok _ H F _ fo.refl (.int _) w⟩
  · exact w.elim
def fAll : List PyData → DQ → Prop := fun ds Q => match ds with
  | [.list xs] => ∃ bs : List Bool, xs = bs.map PyData.bool ∧ Q (.bool (bs.all id))
  | _ => False
theorem cad_all {K : PySem.W.Frag} : CaD K (rAll K) fAll := by
  intro B H F xs ds Qd Q fo hx w ok
  unfold fAll at w
  split at w
  · rename_i ys
    obtain ⟨bs, rfl, w⟩ := w
    cases hx with
    | cons h1 h2 =>
      cases h2
      cases h1 with
      | @lst a vs _ hl ha =>
        have e := dp_bools ha
        subst e
        exact ⟨a, bs, rfl, Evl.sq_of (fo.fh _ _ hl), ok _ H F _ fo.refl (.bl _) w⟩
  · exact w.elim
abbrev rTupOf (K : PySem.W.Frag) : List V → Hp → VK → Prop := fun xs H Q => ∃ p ys, xs = [.ref p] ∧ ((SqL K H p ys ∧ ∀ l, H l = none → Q (.ref l) (upd H l (.tup ys))) ∨ (SqT K H p ys ∧ Q (.ref p) H))
def fTupOf : List PyData → DQ → Prop := fun ds Q => match ds with
  | [.list xs] => Q (.tuple xs)
  | [.tuple xs] => Q (.tuple xs)
  | _ => False
theorem cad_tupOf {K : PySem.W.Frag} : CaD K (rTupOf K) fTupOf := by
  intro B H F xs ds Qd Q fo hx w ok
  unfold fTupOf at w
  split at w
  · rename_i ys
    cases hx with
    | cons h1 h2 =>
      cases h2
      cases h1 with
      | @lst a vs _ hl ha =>
        refine ⟨a, vs, rfl, .inl ⟨Evl.sq_of (fo.fh _ _ hl), fun p hp => ?_⟩⟩
        exact ok (.ref p) _ _ _ (fo.alloc hp) (.tup (Evl.st_of upd_same) (dpmA (Evl.Ex.new (fo.fnone hp)) _ _ ha)) w
  · rename_i ys
    cases hx with
    | cons h1 h2 =>
      cases h2
      cases h1 with
      | @tup a vs _ hl ha => exact ⟨a, vs, rfl, .inr ⟨Evl.ex_t fo.fh hl, ok _ H F _ fo.refl (.tup hl ha) w⟩⟩
  · exact w.elim
/-- list(x): a new list -/
abbrev rLstOf (K : PySem.W.Frag) : List V → Hp → VK → Prop := fun xs H Q => ∃ p ys, xs = [.ref p] ∧ (SqL K H p ys ∨ SqT K H p ys) ∧ ∀ l, H l = none → Q (.ref l) (upd H l (.lst ys))
def wLstOf (we : WE) : WE := fun env Q X => we env (fun d => match d with
  | .list xs => Q (.list xs)
  | .tuple xs => Q (.list xs)
  | _ => False) X
section
variable {X : Cx} {W : WX} {e : Expr} {es : List Expr} {we wa wb : WE} {pos p : Pos} {a b : Expr}
theorem pf_lstOf (hg : Gl X "list") (hm : X.mg "list" = none) (h : PD X W e we) (hs : starEach [e] X.env = (false, eval e X.env) :: starEach [] X.env := by rfl) (hpl : (backTo pos (starEach [] X.env)).any (·.1) = false := by rfl) :
    PF X W (.Call (.Name "list" p) [e] [] pos) (wLstOf we) := by
  refine pe_imp (pe_callTy call_list_of hg hm PyProof.Rows.boot_list (pa_cons h pa_nil hs) (by decide) (by decide) hs hpl) ?_
  rintro σ H Q ⟨B, F, env, Qd, Xd, so, w, ok, okx⟩
  refine ⟨B, F, env, _, Xd, so, w, fun x H1 F1 dx s1 hx w1 => ?_, okx⟩
  try dsimp only at w1
  have fo := (so.step s1).fo
  split at w1
  · cases hx with
    | @lst a xs _ hl ha => exact ⟨a, xs, rfl, .inl (Evl.sq_of (fo.fh _ _ hl)), fun q hq => ok q xs _ F1 _ (s1.trans (fo.lay hq)) (fo.fnone hq) (s1.dom q hq) upd_same ha w1⟩
  · cases hx with
    | @tup a xs _ hl ha => exact ⟨a, xs, rfl, .inr (Evl.ex_t fo.fh hl), fun q hq => ok q xs _ F1 _ (s1.trans (fo.lay hq)) (fo.fnone hq) (s1.dom q hq) upd_same ha w1⟩
  · exact w1.elim
/-- isinstance(e, T), T a built-in type -/
def wIsi (g : PyData → Bool) (we : WE) : WE := fun env Q X => we env (fun d => Q (.bool (g d))) X
theorem pd_isi {S : String} {g : PyData → Bool} (hk : ∀ d, kitB (tyD d) S = some (g d)) (hg : Gl X "isinstance") (hm : X.mg "isinstance" = none) (h : PD X W e we) (hT : PE X b (tC (.ty S)))
    (hs : starEach [e, b] X.env = (false, eval e X.env) :: starEach [b] X.env := by rfl) (hs2 : starEach [b] X.env = (false, eval b X.env) :: starEach [] X.env := by rfl) (hpl : (backTo pos (starEach [b] X.env)).any (·.1) = false := by rfl) :
    PD X W (.Call (.Name "isinstance" p) [e, b] [] pos) (wIsi g we) := by
  refine pe_imp (pe_callB call_isi hg hm (by decide +kernel) (pa_cons h (pa_cons hT pa_nil hs2) hs) (by decide) (by decide) hs hpl) ?_
  rintro σ H Q ⟨B, F, env, Qd, Xd, so, w, ok, okx⟩
  refine ⟨B, F, env, _, Xd, so, w, fun x H1 F1 dx s1 hx w1 => ?_, okx⟩
  have fo := (so.step s1).fo
  exact ⟨x, .ty S, .type (tyD dx), .type S, g dx, rfl, .ty S, hs_ty (dpm fo.fh dx x hx), kit_ty (hk dx), ok _ H1 F1 _ s1 (.bl _) w1⟩
def isTup : PyData → Bool
  | .tuple _ => true
  | _ => false
def isInt : PyData → Bool
  | .int _ => true
  | .bool _ => true
  | _ => false
def isBool : PyData → Bool
  | .bool _ => true
  | _ => false
def isStr : PyData → Bool
  | .str _ => true
  | _ => false
def isLst : PyData → Bool
  | .list _ => true
  | _ => false
theorem kit_tup : ∀ d, kitB (tyD d) "tuple" = some (isTup d)
  | .none => (by decide +kernel : kitB "NoneType" "tuple" = some false)
  | .bool _ => (by decide +kernel : kitB "bool" "tuple" = some false)
  | .int _ => (by decide +kernel : kitB "int" "tuple" = some false)
  | .str _ => (by decide +kernel : kitB "str" "tuple" = some false)
  | .list _ => (by decide +kernel : kitB "list" "tuple" = some false)
  | .tuple _ => (by decide +kernel : kitB "tuple" "tuple" = some true)
  | .dict _ => (by decide +kernel : kitB "dict" "tuple" = some false)
theorem kit_int : ∀ d, kitB (tyD d) "int" = some (isInt d)
  | .none => (by decide +kernel : kitB "NoneType" "int" = some false)
  | .bool _ => (by decide +kernel : kitB "bool" "int" = some true)
  | .int _ => (by decide +kernel : kitB "int" "int" = some true)
  | .str _ => (by decide +kernel : kitB "str" "int" = some false)
  | .list _ => (by decide +kernel : kitB "list" "int" = some false)
  | .tuple _ => (by decide +kernel : kitB "tuple" "int" = some false)
  | .dict _ => (by decide +kernel : kitB "dict" "int" = some false)
theorem kit_bool : ∀ d, kitB (tyD d) "bool" = some (isBool d)
  | .none => (by decide +kernel : kitB "NoneType" "bool" = some false)
  | .bool _ => (by decide +kernel : kitB "bool" "bool" = some true)
  | .int _ => (by decide +kernel : kitB "int" "bool" = some false)
  | .str _ => (by decide +kernel : kitB "str" "bool" = some false)
  | .list _ => (by decide +kernel : kitB "list" "bool" = some false)
  | .tuple _ => (by decide +kernel : kitB "tuple" "bool" = some false)
  | .dict _ => (by decide +kernel : kitB "dict" "bool" = some false)
theorem kit_str : ∀ d, kitB (tyD d) "str" = some (isStr d)
  | .none => (by decide +kernel : kitB "NoneType" "str" = some false)
  | .bool _ => (by decide +kernel : kitB "bool" "str" = some false)
  | .int _ => (by decide +kernel : kitB "int" "str" = some false)
  | .str _ => (by decide +kernel : kitB "str" "str" = some true)
  | .list _ => (by decide +kernel : kitB "list" "str" = some false)
  | .tuple _ => (by decide +kernel : kitB "tuple" "str" = some false)
  | .dict _ => (by decide +kernel : kitB "dict" "str" = some false)
theorem kit_lst : ∀ d, kitB (tyD d) "list" = some (isLst d)
  | .none => (by decide +kernel : kitB "NoneType" "list" = some false)
  | .bool _ => (by decide +kernel : kitB "bool" "list" = some false)
  | .int _ => (by decide +kernel : kitB "int" "list" = some false)
  | .str _ => (by decide +kernel : kitB "str" "list" = some false)
  | .list _ => (by decide +kernel : kitB "list" "list" = some true)
  | .tuple _ => (by decide +kernel : kitB "tuple" "list" = some false)
  | .dict _ => (by decide +kernel : kitB "dict" "list" = some false)
/-! * of ints, of a list and an int -/
def rMulA : R2 := fun x y H Q => (rI CMulW fun i j => .int (i * j)) x y H Q ∨ ((rI CMul fun i j => .int (i * j)) x y H Q ∨ rRep x y H Q)
theorem op_mulA : OpR X (binaryOp .Mult) rMulA := opr_or op_mulW (opr_or op_mul op_rep)
def fMulA : PyData → PyData → DQ → Prop := fun x y Q => match x, y with
  | .int i, .int j => (i.natAbs.log2 + j.natAbs.log2 < 1000000 ∨ ((-(2 ^ 64) < i ∧ i < 2 ^ 64) ∨ (-(2 ^ 64) < j ∧ j < 2 ^ 64))) ∧ Q (.int (i * j))
  | .list ds, .int k => -(2 ^ 63) ≤ k ∧ k < 2 ^ 63 ∧ ds.length * k.toNat ≤ 16777216 ∧ Q (.list (List.replicate k.toNat ds).flatten)
  | _, _ => False
theorem opd_mulA {K : PySem.W.Frag} : OpD K rMulA fMulA := by
  intro B H F x y dx dy Qd Q fo hx hy w ok
  unfold fMulA at w
  split at w
  · rename_i i j
    rcases w.1 with c | c
    · exact .inl ⟨i, j, dp_int hx, dp_int hy, c, ok _ H F _ fo.refl (.int _) w.2⟩
    · exact .inr (.inl ⟨i, j, dp_int hx, dp_int hy, c, ok _ H F _ fo.refl (.int _) w.2⟩)
  · rename_i ds k
    cases hx with
    | @lst a xs _ hl ha =>
      refine .inr (.inr ⟨a, k, xs, rfl, dp_int hy, fo.fh _ _ hl, w.1, w.2.1, line_le (by rw [dpA_len ha]; exact w.2.2.1), fun q hq => ?_⟩)
      exact ok (.ref q) _ _ _ (fo.alloc hq) (.lst upd_same (dpmA (Evl.Ex.new (fo.fnone hq)) _ _ (dpA_rep ha _))) w.2.2.2
  · exact w.elim
/-! ### slices -/
abbrev WO := List Sl → (Option Int → Prop) → XQ → Prop
def LO (K : PySem.W.Frag) (W : WX) (w : WO) : TO := fun σ H Q => ∃ B F env Qd Xd, SO K B σ H F env ∧ w env Qd Xd ∧ (∀ o H' F', FO (stp B F H) H' F' → Qd o → Q o H') ∧ OkX K B F H σ Xd W
def POd (X : Cx) (W : WX) (e : Option Expr) (w : WO) : Prop := PO X e (LO X.K W w)
theorem po_imp {X : Cx} {e : Option Expr} {t t' : TO} (h : PO X e t) (i : ∀ σ H Q, t' σ H Q → t σ H Q) : PO X e t' := ⟨fun ps s σ H Q I q => h.run ps s σ H Q I (i σ H Q q)⟩
def oNone : WO := fun _ Q _ => Q none
def oSome (we : WE) : WO := fun env Q X => we env (fun d => match d with
  | .int i => Q (some i)
  | _ => False) X
theorem pod_none : POd X W none oNone := by
  refine po_imp po_none ?_
  rintro σ H Q ⟨B, F, env, Qd, Xd, so, w, ok, okx⟩
  exact ok none H F so.fo.refl w
theorem pod_some (h : PD X W e we) : POd X W (some e) (oSome we) := by
  refine po_imp (po_some h) ?_
  rintro σ H Q ⟨B, F, env, Qd, Xd, so, w, ok, okx⟩
  refine ⟨B, F, env, _, Xd, so, w, fun x H1 F1 dx s1 hx w1 => ?_, okx⟩
  try dsimp only at w1
  split at w1
  · rename_i i
    exact ⟨i, dp_int hx, ok _ H1 F1 s1 w1⟩
  · exact w1.elim
def cutD (xs : List PyData) (lo hi : Option Int) : List PyData := (xs.drop (HT.sIx xs.length 0 lo)).take (HT.sIx xs.length xs.length hi - HT.sIx xs.length 0 lo)
theorem cut_hs {K : PySem.W.Frag} {F : Hp} {vs : List V} {ds : List PyData} {lo hi : Option Int} (h : HsA K F vs ds) : HsA K F (cutV vs lo hi) (cutD ds lo hi) := by
  unfold cutV cutD
  rw [dpA_len h]
  exact dpA_take (dpA_drop h)
def wSl (we : WE) (lo hi : WO) : WE := fun env Q X => we env (fun d => lo env (fun l => hi env (fun h => match d with
  | .list ds => Q (.list (cutD ds l h))
  | .tuple ds => Q (.tuple (cutD ds l h))
  | _ => False) X) X) X
def rSlLT (K : PySem.W.Frag) : V → Option Int → Option Int → Hp → VK → Prop := fun x lo hi H Q => rSlL K x lo hi H Q ∨ rSlA K x lo hi H Q
theorem cut_whole {ds : List PyData} {lo hi : Option Int} (h : HT.sIx ds.length 0 lo = 0 ∧ HT.sIx ds.length ds.length hi = ds.length) : cutD ds lo hi = ds := by
  unfold cutD
  rw [h.1, h.2]
  simp
theorem pd_slice {lo hi : Option Expr} {wl wh : WO} {p2 : Pos} (h : PD X W e we) (hl : POd X W lo wl) (hh : POd X W hi wh) : PD X W (.Subscript e (.Slice lo hi none p2) pos) (wSl we wl wh) := by
  refine pe_imp (pe_slice (r := rSlLT X.K) (sl_list.or sl_tupA) h hl hh) ?_
  rintro σ H Q ⟨B, F, env, Qd, Xd, so, w, ok, okx⟩
  refine ⟨B, F, env, _, Xd, so, w, fun x H1 F1 dx s1 hx w1 => ?_, okx⟩
  refine ⟨B, F1, env, _, Xd, so.step s1, w1, fun l H2 F2 s2 w2 => ?_, okx.step s1⟩
  refine ⟨B, F2, env, _, Xd, (so.step s1).step s2, w2, fun u H3 F3 s3 w3 => ?_, (okx.step s1).step s2⟩
  have fo := (((so.step s1).step s2).step s3).fo
  have st := (s1.trans s2).trans s3
  have hx3 := dpm (s2.f0.trans s3.f0) dx x hx
  try dsimp only at w3
  split at w3
  · cases hx3 with
    | @lst a xs ds hl ha =>
      refine .inl ⟨a, xs, rfl, Evl.sq_of (fo.fh _ _ hl), fun q hq => ?_⟩
      exact ok (.ref q) _ _ _ (st.trans (fo.alloc hq)) (.lst upd_same (dpmA (Evl.Ex.new (fo.fnone hq)) _ _ (cut_hs ha))) w3
  · cases hx3 with
    | @tup a xs ds hl ha =>
      have le := dpA_len ha
      refine .inr ⟨a, xs, rfl, Evl.ex_t fo.fh hl, fun hw => ?_, fun hw q hq => ?_⟩
      · rw [le] at hw
        rw [cut_whole hw] at w3
        exact ok (.ref a) H3 F3 _ st (.tup hl ha) w3
      · exact ok (.ref q) _ _ _ (st.trans (fo.alloc hq)) (.tup (Evl.st_of upd_same) (dpmA (Evl.Ex.new (fo.fnone hq)) _ _ (cut_hs ha))) w3
  · exact w3.elim
/-- xs[::-1] of a list -/
def wRev (we : WE) : WE := fun env Q X => we env (fun d => match d with
  | .list ds => Q (.list ds.reverse)
  | _ => False) X
theorem pd_rev {k : Nat} {p1 p2 p3 : Pos} (h : PD X W e we) : PD X W (.Subscript e (.Slice none none (some (.UnaryOp .USub (.Constant (.int 1) k p1) p2)) p3) pos) (wRev we) := by
  refine pe_imp (pe_revL h) ?_
  rintro σ H Q ⟨B, F, env, Qd, Xd, so, w, ok, okx⟩
  refine ⟨B, F, env, _, Xd, so, w, fun x H1 F1 dx s1 hx w1 => ?_, okx⟩
  have fo := (so.step s1).fo
  try dsimp only at w1
  split at w1
  · cases hx with
    | @lst a xs ds hl ha =>
      exact ⟨a, xs, rfl, Evl.sq_of (fo.fh _ _ hl), fun q hq => ok (.ref q) _ _ _ (s1.trans (fo.alloc hq)) (.lst upd_same (dpmA (Evl.Ex.new (fo.fnone hq)) _ _ (dpA_rev ha))) w1⟩
  · exact w1.elim
/-! ### a list of one's own that is only looked at -/
/-- x[i], len(x), tuple(x): the slot's list as it stands -/
def wIxC (j : Nat) (wi : WE) : WE := fun env Q X => match slot env j with
  | .cell ds => wi env (fun di => match di with
    | .int i => ∃ d, atI ds i = some d ∧ Q d
    | _ => False) X
  | _ => False
theorem pd_ixC (j : Nat) {i : Expr} {wi : WE} {x : Str} {p2 : Pos} (hi : PD X W i wi) (hs : PlainIx i) (hN : X.N[j]? = some x := by rfl) (hv : Vis X.env.scope x := by first | exact Or.inl rfl | exact Or.inr (Or.inl rfl) | exact Or.inr (Or.inr rfl)) (hd : (x == ("__debug__" : Str)) = false := by decide)
    (hcd : (x == ("__classdict__" : Str)) = false := by decide) : PD X W (.Subscript (.Name x p2) i pos) (wIxC j wi) := by
  refine pe_imp (pe_ix ix_list (pe_var hN hv hd hcd) hi hs) ?_
  rintro σ H Q ⟨B, F, env, Qd, Xd, so, w, ok, okx⟩
  unfold wIxC at w
  split at w
  · rename_i ds hsl
    obtain ⟨a, vs, hj, e, _, _⟩ := slot_cell so hsl
    refine ⟨.ref a, e, B, F, env, _, Xd, so, w, fun iv H1 F1 di s1 hiv w1 => ?_, okx⟩
    have so1 := so.step s1
    obtain ⟨a', vs', hj', e', hh', hd'⟩ := slot_cell so1 hsl
    rw [e] at e'
    cases e'
    try dsimp only at w1
    split at w1
    · rename_i k
      obtain ⟨d, e2, q⟩ := w1
      obtain ⟨v, hv, hvd⟩ := atI_hs hd' e2
      exact ⟨a, vs', k, v, rfl, dp_int hiv, Evl.sq_of hh', hv, ok v H1 F1 d s1 hvd q⟩
    · exact w1.elim
  · exact w.elim
def wLenC (j : Nat) : WE := fun env Q _ => match slot env j with
  | .cell ds => Q (.int (ds.length : Nat))
  | _ => False
theorem pd_lenC (j : Nat) {x : Str} {p2 : Pos} (hg : Gl X "len") (hm : X.mg "len" = none) (hN : X.N[j]? = some x := by rfl) (hv : Vis X.env.scope x := by first | exact Or.inl rfl | exact Or.inr (Or.inl rfl) | exact Or.inr (Or.inr rfl)) (hd : (x == ("__debug__" : Str)) = false := by decide)
    (hcd : (x == ("__classdict__" : Str)) = false := by decide) : PD X W (.Call (.Name "len" p) [.Name x p2] [] pos) (wLenC j) := by
  refine pe_imp (pe_callB call_len hg hm PySem.boot_len (pa_cons (pe_var hN hv hd hcd) pa_nil)) ?_
  rintro σ H Q ⟨B, F, env, Qd, Xd, so, w, ok, okx⟩
  unfold wLenC at w
  split at w
  · rename_i ds hsl
    obtain ⟨a, vs, hj, e, hh, hd'⟩ := slot_cell so hsl
    exact ⟨.ref a, e, _, vs.length, rfl, .inl ⟨vs, Evl.sq_of hh, rfl⟩, ok _ H F _ so.fo.refl (.int _) (by rw [dpA_len hd']; exact w)⟩
  · exact w.elim
def wTupC (j : Nat) : WE := fun env Q _ => match slot env j with
  | .cell ds => Q (.tuple ds)
  | _ => False
theorem pd_tupC (j : Nat) {x : Str} {p2 : Pos} (hg : Gl X "tuple") (hm : X.mg "tuple" = none) (hN : X.N[j]? = some x := by rfl) (hv : Vis X.env.scope x := by first | exact Or.inl rfl | exact Or.inr (Or.inl rfl) | exact Or.inr (Or.inr rfl)) (hd : (x == ("__debug__" : Str)) = false := by decide)
    (hcd : (x == ("__classdict__" : Str)) = false := by decide) : PD X W (.Call (.Name "tuple" p) [.Name x p2] [] pos) (wTupC j) := by
  refine pe_imp (pe_callTy call_tuple_of hg hm PyProof.Rows.boot_tuple (pa_cons (pe_var hN hv hd hcd) pa_nil)) ?_
  rintro σ H Q ⟨B, F, env, Qd, Xd, so, w, ok, okx⟩
  unfold wTupC at w
  split at w
  · rename_i ds hsl
    obtain ⟨a, vs, hj, e, hh, hd'⟩ := slot_cell so hsl
    refine ⟨.ref a, e, a, vs, rfl, .inl ⟨Evl.sq_of hh, fun q hq => ?_⟩⟩
    exact ok (.ref q) _ _ _ (so.fo.alloc hq) (.tup (Evl.st_of upd_same) (dpmA (Evl.Ex.new (so.fo.fnone hq)) _ _ hd')) w
  · exact w.elim
end
end Hw
-- HwF
set_option Elab.async false
set_option linter.all false
set_option maxRecDepth 100000
set_option maxHeartbeats 2000000
namespace Hw
open PySem L2
/-! ### calls whose arguments are all keywords -/
def perm {α : Type} (is : List Nat) (l : List α) : List α := is.filterMap fun i => l[i]?
theorem vals_perm {vs : List V} {us : List Value} (h : Vals vs us) : ∀ is : List Nat, Vals (perm is vs) (perm is us)
  | [] => .nil
  | i :: is => by
    unfold perm
    rw [List.filterMap_cons, List.filterMap_cons]
    cases e : vs[i]? with
    | none =>
      have e2 : us[i]? = none := by
        rw [List.getElem?_eq_none_iff] at e ⊢
        rw [← h.length]; exact e
      rw [e2]
      exact vals_perm h is
    | some v =>
      obtain ⟨u, hu, r⟩ := h.get e
      rw [hu]
      exact .cons r (vals_perm h is)
theorem aok_get {K : PySem.W.Frag} {B : Bs} {F : Hp} : ∀ {vs : List V} {ss : List Sl} (i : Nat), AOk K B F vs ss → (vs[i]? = none ∧ ss[i]? = none) ∨ ∃ v s, vs[i]? = some v ∧ ss[i]? = some s ∧ AOk K B F [v] [s]
  | [], [], i, _ => .inl ⟨by simp, by simp⟩
  | v :: vs, .val d :: ss, 0, h => .inr ⟨v, .val d, rfl, rfl, h.1, trivial⟩
  | v :: vs, .pool :: ss, 0, h => .inr ⟨v, .pool, rfl, rfl, h.1, trivial⟩
  | v :: vs, .val d :: ss, i + 1, h => by simpa using aok_get i h.2
  | v :: vs, .pool :: ss, i + 1, h => by simpa using aok_get i h.2
  | [], _ :: _, _, h => h.elim
  | _ :: _, [], _, h => h.elim
  | _ :: _, .un :: _, _, h => h.elim
  | _ :: _, .cell _ :: _, _, h => h.elim
  | _ :: _, .exc .. :: _, _, h => h.elim
theorem aok_cons {K : PySem.W.Frag} {B : Bs} {F : Hp} {v : V} {s : Sl} {vs : List V} {ss : List Sl} (h1 : AOk K B F [v] [s]) (h2 : AOk K B F vs ss) : AOk K B F (v :: vs) (s :: ss) := by
  cases s with
  | val d => exact ⟨h1.1, h2⟩
  | pool => exact ⟨h1.1, h2⟩
  | un => exact h1.elim
  | cell _ => exact h1.elim
  | exc _ _ _ _ => exact h1.elim
theorem aok_perm {K : PySem.W.Frag} {B : Bs} {F : Hp} {vs : List V} {ss : List Sl} (h : AOk K B F vs ss) : ∀ is : List Nat, AOk K B F (perm is vs) (perm is ss)
  | [] => trivial
  | i :: is => by
    unfold perm
    rw [List.filterMap_cons, List.filterMap_cons]
    rcases aok_get i h with ⟨e1, e2⟩ | ⟨v, s, e1, e2, a⟩
    · rw [e1, e2]; exact aok_perm h is
    · rw [e1, e2]; exact aok_cons a (aok_perm h is)
def PKd (X : Cx) (W : WX) (kws : List Keyword) (w : WA) : Prop := PK X kws (LA X.K W w)
theorem pk_imp {X : Cx} {k : List Keyword} {t t' : TA} (h : PK X k t) (i : ∀ σ H Q, t' σ H Q → t σ H Q) : PK X k t' := ⟨fun pos ps s σ H Q I q => h.run pos ps s σ H Q I (i σ H Q q)⟩
/-- what binds keywords alone: the parameters' values out of the keywords' -/
structure KW (K : PySem.W.Frag) (fd : FuncData) (ps ks : List Str) (is : List Nat) : Prop where
  to : ∀ (s : Shared) (ws : List Value), K.In s.heap → ws.length = ks.length → BindsTo s fd ⟨[], ks.zip ws⟩ (ps.zip (perm is ws))
theorem kw_mk {K : PySem.W.Frag} {x qual : Str} {st : Stmt} {f : Addr} {fd : FuncData} {ps : List Str} (F : Fun K x qual st f fd) (ks : List Str) (is : List Nat)
    (h : ∀ (kV doc pm : Value) (an : Option Addr) (cdv ct : Value) (ws : List Value), ws.length = ks.length → bindArgs (PySem.W.fnOf x qual (defArgs st) (defBody st) (defScope st) .none kV doc pm an cdv ct) ⟨[], ks.zip ws⟩ = pure (ps.zip (perm is ws))) : KW K fd ps ks is := by
  obtain ⟨oc, od, kV, doc, pm, an, cdv, ct, osl, rfl, lk, hcd⟩ := F.ex
  exact ⟨fun s ws _ l => .of_eq (h kV doc pm an cdv ct ws l)⟩
def wCallK (n m : Nat) (is : List Nat) (c : Ct) (wk : WA) : WE := fun env Q X => wk env (fun ss => ss.length = m ∧ (perm is ss).length = n ∧ c (perm is ss) Q X) X
section
variable {X : Cx} {W : WX} {e : Expr} {kws : List Keyword} {pos p kpos : Pos} {x : Str} {f : Addr} {fd : FuncData} {ps ks : List Str} {is : List Nat} {n k : Nat} {c : Ct} {wk : WA} {we : WE} {nm : Option Str}
theorem pkd_nil : PKd X W [] aNil := by
  refine pk_imp pk_nil ?_
  rintro σ H Q ⟨B, F, env, Qd, Xd, so, w, ok, okx⟩
  exact ok [] H F [] so.fo.refl trivial w
theorem pkd_cons {wr : WA} (he : PD X W e we) (hr : PKd X W kws wr) : PKd X W (⟨nm, e, kpos⟩ :: kws) (aCons we wr) := by
  refine pk_imp (pk_cons he hr) ?_
  rintro σ H Q ⟨B, F, env, Qd, Xd, so, w, ok, okx⟩
  refine ⟨B, F, env, _, Xd, so, w, fun x H1 F1 dx s1 hx w1 => ?_, okx⟩
  refine ⟨B, F1, env, _, Xd, so.step s1, w1, fun vs H2 F2 ss s2 hv w2 => ?_, okx.step s1⟩
  exact ok (x :: vs) H2 F2 (.val dx :: ss) (s1.trans s2) ⟨dpm s2.f0 dx x hx, hv⟩ w2
theorem pd_callK (tk : L2N.Takes X W) (F : FnOk X.prog X.w X.K X.mg X.base (L2N.CX X.prog X.w) k f fd ps (spC X.K n c)) (hr : Room k X.A) (hg : Gl X x) (hm : X.mg x = some (.ref f)) (hk : PySem.W.keepIn X.K (.ref f) = true) (hb : KW X.K fd ps ks is)
    (hkw : PKd X W kws wk) (hall : (backToKw pos (keywordEach kws X.env)).all (·.1.isSome) = true := by rfl) (hks : (backToKw pos (keywordEach kws X.env)).filterMap (·.1) = ks := by rfl) (hdb : (x == ("__debug__" : Str)) = false := by decide)
    (hpl : ((backTo pos (starEach [] X.env)).any (·.1) || (backToKw pos (keywordEach kws X.env)).any (·.1.isNone)) = false := by rfl) :
    PD X W (.Call (.Name x p) [] kws pos) (wCallK n ks.length is c wk) := by
  refine ⟨fun pins s σ H Q I ⟨B, F0, env, Qd, Xd, so, w, ok, okx⟩ => ?_⟩
  refine wpAny_Call_Name_kw (ld_glob I hg hm (PySem.W.callWith_KW0 (h₀ := X.base) I.ok.mod.kin hk hall ?_ hpl) hdb)
  refine thn (hkw.run pos pins s σ H (fun zs H2 => zs.length = ks.length ∧ spC X.K n c (perm is zs) H2 Q (L2.WE W σ)) I ?_) fun ws s2 ⟨zs, H2, I2, rz, l2, q2⟩ => ⟨I2.kIn, ?_⟩
  · refine ⟨B, F0, env, _, Xd, so, w, fun vs H1 F1 ss s1 hv w1 => ⟨by rw [aok_len hv]; exact w1.1, ?_⟩, okx⟩
    have ha := aok_perm hv is
    exact ⟨by rw [aok_len ha]; exact w1.2.1, B.pl, F1, perm is ss, Qd, Xd, (so.step s1).fo.refl, aok_pl (B := B) (B' := bsOf B.pl F1 H1) rfl ha, w1.2.2, fun v H' F' d q => ok v H' F' d (s1.trans q), fun cc dd H' F' x q => okx cc dd H' F' x (s1.trans q)⟩
  · rw [hks]
    refine wpAny_call (codeAny_mono (F.run X.A X.stack s2 H2 ⟨[], ks.zip ws⟩ (perm is ws) (perm is zs) Q (L2.WE W σ) hr I2.env0 (hb.to s2 ws I2.kIn (rz.length.symm.trans l2)) (vals_perm rz is) q2) fun r s' hq => ?_)
    cases r with
    | error er => exact L2N.passAt tk σ pins H2 s2 er s' I2 hq
    | ok fl =>
      cases fl with
      | ret u => exact I2.after hq
      | next => exact False.elim hq
      | brk => exact False.elim hq
      | cont => exact False.elim hq
end
/-! ### an own exception of two fields, raised -/
/-- what __init__(self, a, b): self.f = a; self.g = b leaves -/
def spIni (C : Addr) (f1 f2 : Str) : Sp := fun vs H Q _ => ∃ (a : Addr) (v1 v2 : V), vs = [.ref a, v1, v2] ∧ H a = some (exo a C none) ∧
  ∀ dx, H dx = none → dx ≠ a → Q .non (upd (upd (upd H dx (exd dx [(f1, v1)])) a (exo a C (some dx))) dx (exd dx [(f2, v2), (f1, v1)]))
section
variable {P : Program} {w : World} {K : PySem.W.Frag} {mg : Str → Option Value} {base : Heap}
theorem ini_ok {x qual : Str} {st : Stmt} {f C : Addr} {fd : FuncData} {N ps : List Str} {f1 f2 : Str} {CX : CXT} (T : OexC K C) (n1 : PySem.W.findIn K (.ref C) f1 = some none) (n2 : PySem.W.findIn K (.ref C) f2 = some none) (F : Fun K x qual st f fd) (S : FnScope N ps (defScope st)) (hn : ps.length = 3) (hN : N.length = 3)
    (hd : ∀ (cdv : Value) (A : Around) (outer : List Env) (s : Shared) (H : Hp) (E : XK), PSs (cxOf CX P w K mg base N qual (defScope st) f cdv A outer s H E) (defBody st) (tSeq (tOst K f1 (tVar 0) (tVar 1)) (tOst K f2 (tVar 0) (tVar 2)))) :
    FnOk P w K mg base CX 1 f fd ps (spIni C f1 f2) := by
  obtain ⟨oc, od, kV, doc, pm, an, cdv, ct, osl, rfl, lk, hcd⟩ := F.ex
  refine fn_of lk hcd S (fun vs H Q E h => by obtain ⟨a, v1, v2, rfl, _⟩ := h; rw [hn]; rfl) fun A outer s H vs Q E hr h => ?_
  obtain ⟨a, v1, v2, rfl, hH, q⟩ := h
  refine ⟨_, hd cdv A outer s H E, ?_⟩
  refine ⟨v1, rfl, .ref a, rfl, a, C, rfl, T, n1, .inl ⟨hH, fun dx hdx ne => ?_⟩⟩
  refine ⟨v2, rfl, .ref a, rfl, a, C, rfl, T, n2, .inr ⟨dx, [(f1, v1)], upd_same, ?_, (show 1 ≤ 900 by decide), q dx hdx ne⟩⟩
  rw [upd_ne ne, upd_same]
end
section
variable {X : Cx} {W : WX}
/-- C(a, b): the exception, its fields -/
def tMk2 (C : Addr) (f1 f2 : Str) (ta : TA) : List (Option V) → Hp → XK → Prop := fun σ H Q => ta σ H fun vs H1 => ∃ v1 v2, vs = [v1, v2] ∧ ∀ d, H1 d = none → Q (.ref C) (some d) (upd H1 d (.xd [(f2, v2), (f1, v1)]))
theorem pmk_two {CX : CXT} {x : Str} {C fI : Addr} {k : Nat} {fd : FuncData} {ps : List Str} {f1 f2 : Str} {e : Expr} {es : List Expr} {p pos : Pos} {ta : TA} (T : OexC X.K C) (hi : PySem.W.findIn X.K (.ref C) "__init__" = some (some (.ref fI))) (ti : PySem.W.typeIn X.K (.ref fI) = some (.type "function"))
    (F1 : FnOk X.prog X.w X.K X.mg X.base CX k fI fd ps (spIni C f1 f2)) (hr : Room (k + 1) X.A) (hb : Binds X.K fd ps []) (hx : Passes CX X (fun _ _ _ => False)) (hg : Gl X x) (hm : X.mg x = some (.ref C)) (ha : PA X (e :: es) ta)
    (hdb : (x == ("__debug__" : Str)) = false := by decide) (he : starEach (e :: es) X.env = (false, eval e X.env) :: starEach es X.env := by rfl) (hpl : (backTo pos (starEach es X.env)).any (·.1) = false := by rfl) :
    L2N.PMk X (.Call (.Name x p) (e :: es) [] pos) (tMk2 C f1 f2 ta) := by
  intro pins s σ H Q I h
  obtain ⟨nm, qn, ns, bs, mro, snm, sbc, abt, clc, ddc, j0, j1, j2, j3, j5, look, refs⟩ := T.cls
  refine wpAny_Call_Name_kw (ld_glob I hg hm (PySem.W.callWith_K (h₀ := X.base) I.ok.mod.kin T.kC (thn (ha.run pos pins s σ H _ I h) fun us s1 ⟨vs, H1, I1, r1, v1, v2, ev, q1⟩ => ⟨I1.kIn, ?_⟩) he hpl) hdb)
  subst ev
  show wpAny _ _ (call (.ref C) us) _ _ _
  obtain ⟨hp, gs, dr, tk, os⟩ := s1
  have le1 : hp.objs.size ≤ hp.objs.size + 1 := Nat.le_succ _
  have new : H1 (hp.objs.size + 1) = none := I1.hok.fresh le1
  have keep2 : ∀ b o, hp.get? b = some o → ((hp.push (PySem.W.kdv_tup us)).push (PySem.HandSPX.excO C hp.objs.size)).get? b = some o := fun b o z => Heap.get?_push_of_some _ (Heap.get?_push_of_some _ z)
  have get2 : ((hp.push (PySem.W.kdv_tup us)).push (PySem.HandSPX.excO C hp.objs.size)).get? (hp.objs.size + 1) = some (PySem.HandSPX.excO C hp.objs.size) := by heap_get
  have I2 : Inv X pins σ (upd H1 (hp.objs.size + 1) (exo (hp.objs.size + 1) C none)) ⟨(hp.push (PySem.W.kdv_tup us)).push (PySem.HandSPX.excO C hp.objs.size), gs, dr, tk, os⟩ :=
    I1.laid (t' := tk) (a := hp.objs.size + 1) (o := exo (hp.objs.size + 1) C none) (h' := (hp.push (PySem.W.kdv_tup us)).push (PySem.HandSPX.excO C hp.objs.size)) keep2 le1 (exo_ok get2)
  have rel2 : Vals (V.ref (hp.objs.size + 1) :: [v1, v2]) (Value.ref (hp.objs.size + 1) :: us) := .cons rfl r1
  have two : us.length = 2 := by rw [← r1.length]; rfl
  have z1000 : us.length ≤ sizeLine := by rw [two]; exact line_le (by decide)
  have want : spIni C f1 f2 [V.ref (hp.objs.size + 1), v1, v2] (upd H1 (hp.objs.size + 1) (exo (hp.objs.size + 1) C none))
      (fun v H2 => v = .non ∧ ∃ d, H1 d = none ∧ d ≠ hp.objs.size + 1 ∧ H2 = upd (upd (upd (upd H1 (hp.objs.size + 1) (exo (hp.objs.size + 1) C none)) d (exd d [(f1, v1)])) (hp.objs.size + 1) (exo (hp.objs.size + 1) C (some d))) d (exd d [(f2, v2), (f1, v1)])) (fun _ _ _ => False) :=
    ⟨hp.objs.size + 1, v1, v2, rfl, upd_same, fun dx hdx ne => ⟨rfl, dx, by rw [upd_ne ne] at hdx; exact hdx, ne, rfl⟩⟩
  have llen : (Value.ref (hp.objs.size + 1) :: us ++ []).length = ps.length := by
    have e1 := F1.len _ _ _ _ want
    rw [List.append_nil, List.length_cons, two, ← e1]
    rfl
  have bnd := hb ⟨(hp.push (PySem.W.kdv_tup us)).push (PySem.HandSPX.excO C hp.objs.size), gs, dr, tk, os⟩ (Value.ref (hp.objs.size + 1) :: us) I2.kIn llen
  rw [List.append_nil] at bnd
  refine wpAny_call (PySem.HandSPX.call_own F.excBase_ValueError (fun Y => PySem.HandSPX.refsVE_contains Y mro refs) (I1.kIn _ _ look) (PySem.W.looks_findIn I1.kIn hi) (fun self => PySem.W.bind_fn I1.kIn self ti) z1000
    (codeAny_mono (F1.run _ X.stack _ _ ⟨Value.ref (hp.objs.size + 1) :: us, []⟩ (Value.ref (hp.objs.size + 1) :: us) _ _ (fun _ _ _ => False) (hr.make C us []) (I2.env0.make C us []) bnd rel2 want) fun r s' hq => ?_))
  cases r with
  | error er => exact hx pins σ _ _ er s' I2 hq
  | ok fl =>
    cases fl with
    | next => exact False.elim hq
    | brk => exact False.elim hq
    | cont => exact False.elim hq
    | ret u =>
      obtain ⟨v, H2, os2, bare2, un2, hok2, rv, ev, d, nd, ned, eH⟩ := hq
      subst ev
      obtain ⟨h2, gs2, dr2, tk2, os'⟩ := s'
      refine ⟨rv, ?_⟩
      have ea : H2 (hp.objs.size + 1) = some (exo (hp.objs.size + 1) C (some d)) := by rw [eH, upd_ne ned.symm, upd_same]
      have ed : H2 d = some (exd d [(f2, v2), (f1, v1)]) := by rw [eH, upd_same]
      obtain ⟨t0, G, J, kG, ge, hoe, na⟩ := mk_end0 (d2 := dr2) (t2 := tk2) I1 le1 keep2 un2 hok2 os2 bare2 ea ed nd
      have eF : upd (del H2 (hp.objs.size + 1)) d (.xd [(f2, v2), (f1, v1)]) = upd H1 d (.xd [(f2, v2), (f1, v1)]) := by
        funext b
        by_cases hbd : b = d
        · rw [hbd, upd_same, upd_same]
        · rw [upd_ne hbd, upd_ne hbd]
          by_cases hba : b = hp.objs.size + 1
          · rw [hba, del_same, new]
          · rw [del_ne hba, eH, upd_ne hbd, upd_ne hba, upd_ne hbd, upd_ne hba]
      rw [eF] at J na
      exact ⟨_, _, _, ⟨G, gs2, dr2, tk2, os'⟩, _, .ref C, some d, rfl, J, kG, ge, hoe, ⟨rfl, rfl, fun vs z => by cases z; rfl⟩, rfl, rfl, na, rfl, bare2, raises_own T.exC T.tyC, q1 d nd⟩
def wRaise2 (C : Addr) (f1 f2 : Str) (wa : WA) : WS := fun Ed env => wa env (fun ss => match ss with
  | [.val d1, .val d2] => Ed.xc env ⟨C, [(f2, d2), (f1, d1)]⟩
  | _ => False) (Ed.xc env)
theorem psd_raise2 {C : Addr} {f1 f2 : Str} {e : Expr} {wa : WA} {pos : Pos} (hc : X.calm = true) (tk : L2N.Takes X W) (hm : L2N.PMk X e (tMk2 C f1 f2 (LA X.K W wa))) : PSd X W (.Raise (some e) none pos) (wRaise2 C f1 f2 wa) := by
  refine ps_imp (L2N.ps_raise hc tk hm) ?_
  rintro D σ H ⟨B, F, env, Ed, so, w, ok⟩
  refine ⟨B, F, env, _, _, so, w, fun vs H1 F1 ss s1 hv w1 => ?_, ok.okx so⟩
  try dsimp only at w1
  have so1 := so.step s1
  split at w1
  · rename_i d1 d2
    match vs, hv with
    | [v1, v2], hv =>
      refine ⟨v1, v2, rfl, fun d hd => ?_⟩
      exact ok.xc (.ref C) (some d) σ _ F1 env ⟨C, [(f2, d2), (f1, d1)]⟩ (so1.step (so1.fo.lay hd)) s1.f0 ⟨rfl, d, _, rfl, upd_same, rfl, .cons hv.2.1 (.cons hv.1 .nil)⟩ w1
    | [], hv => exact hv.elim
    | [_], hv => exact hv.2.elim
    | _ :: _ :: _ :: _, hv => exact hv.2.2.elim
  · exact w1.elim
/-! ### try: .., except C as n: .. -/
def wTry (C : Addr) (i : Nat) (wb : WS) (ws : Addr → Value → Option Addr → WS) : WS := fun Ed env => wb { Ed with xc := fun env' x => x.C = C ∧ ∀ a c dd, ws a c dd { nx := fun e => Ed.nx (e.set i .un), rt := Ed.rt, bk := fun e => Ed.bk (e.set i .un), ct := fun e => Ed.ct (e.set i .un), xc := fun _ _ => False } (env'.set i (.exc a c dd x)) } env
theorem SO.putX {K : PySem.W.Frag} {B : Bs} {H F : Hp} {σ : List (Option V)} {env : List Sl} (o : SO K B σ H F env) (i : Nat) {a : Addr} {c : Value} {dd : Option Addr} {x : XD} (h : XIs K F H c dd x) : SO K B (σ.set i (some (.ref a))) H F (env.set i (.exc a c dd x)) where
  fo := o.fo
  len := by rw [List.length_set, List.length_set]; exact o.len
  slots := fun j s hs => by
    rw [getset] at hs
    by_cases e : i = j
    · subst e
      rw [if_pos rfl] at hs
      by_cases hl : i < env.length
      · rw [if_pos hl] at hs
        cases hs
        refine ⟨?_, h⟩
        rw [getset, if_pos rfl, if_pos (by rw [← o.len]; exact hl)]
      · rw [if_neg hl] at hs; cases hs
    · rw [if_neg e] at hs
      rw [getset, if_neg e]
      exact o.slots j s hs
  apart := fun a b xs ys ad h1 h2 h3 h4 => by
    rw [getset] at h1 h2 h3 h4
    by_cases ea : i = a
    · subst ea
      rw [if_pos rfl] at h1
      split at h1 <;> cases h1
    · by_cases eb : i = b
      · subst eb
        rw [if_pos rfl] at h2
        split at h2 <;> cases h2
      · rw [if_neg ea] at h1 h3
        rw [if_neg eb] at h2 h4
        exact o.apart a b xs ys ad h1 h2 h3 h4
theorem psd_try {x n : Str} {C : Addr} {i : Nat} {body suite : List Stmt} {b₀ : Stmt} {np pos pos' : Pos} {wb : WS} {ws : Addr → Value → Option Addr → WS} (hs : X.stack = X.env :: X.outer) (hf : X.env.frame = some X.env.locals) (hN : X.N.Nodup) (hi : X.N[i]? = some n) (hln : X.env.kindOf n = some .local) (hc : Names X x (.ref C))
    (hex : PySem.W.exmOne X.K (.ref C) (.ref C) = some true)
    (hb : ∀ (W' : WX) (pn : List (Addr × Obj)) (xe : Value → Shared → Prop), L2N.Takes (X.tr pn xe) W' → PassesOwn (model X.prog X.w) X.A X.env xe → PSsd (X.tr pn xe) W' body wb)
    (hsu : ∀ (a : Addr) (oe : Obj) (cls : Value) (d : Option Addr) (pn : List (Addr × Obj)), L2N.Zn cls d oe → (∃ vs, oe.data = .fields vs) → PSsd (X.suite a ((a, oe) :: pn)) W0 (b₀ :: suite) (ws a cls d)) :
    PSd X W (.Try body [.ExceptHandler (some (.Name x np)) (some n) (b₀ :: suite) pos'] [] [] pos) (wTry C i wb ws) := by
  refine ps_imp (L2N.ps_try_as (tb := fun W' => LS X.K W' wb) (ts := fun a cls d => LS X.K W0 (ws a cls d)) (Wout := W0) hs hf hN hi hln hc takesN0 hb hsu) ?_
  rintro D σ H ⟨B, F, env, Ed, so, w, ok⟩
  refine ⟨B, F, env, _, so, w, ok.nx, ok.bk, ok.ct, ok.rt, fun c dd σ' H' F' env' xx so' ex' hx q => ?_⟩
  obtain ⟨ec, q⟩ := q
  have hx0 := hx
  obtain ⟨rfl, d, fs, rfl, hh, hf1, hf2⟩ := hx
  rw [ec]
  refine ⟨true, hex, fun _ a ha => ?_, fun z => Bool.noConfusion z⟩
  rw [ec] at hx0
  refine ⟨B, F', _, _, so'.putX i (a := a) hx0, q a _ _, fun σ2 H2 F2 env2 s2 e2 z => ok.nx _ _ _ _ (s2.drop i none) (ex'.trans e2) z, fun σ2 H2 F2 env2 s2 e2 z => ok.bk _ _ _ _ (s2.drop i none) (ex'.trans e2) z, fun σ2 H2 F2 env2 s2 e2 z => ok.ct _ _ _ _ (s2.drop i none) (ex'.trans e2) z, ok.rt, fun _ _ _ _ _ _ _ _ _ _ z => z.elim⟩
/-- n.f in the suite -/
def wXf (i : Nat) (a : Addr) (c : Value) (dd : Option Addr) (C : Addr) (f : Str) : WE := fun env Q _ => match slot env i with
  | .exc a' c' dd' x => a' = a ∧ c' = c ∧ dd' = dd ∧ x.C = C ∧ ∃ d, x.fs.lookup f = some d ∧ Q d
  | _ => False
theorem look_cons {β : Type} (f g : Str) (y : β) (fs : List (Str × β)) : List.lookup g ((f, y) :: fs) = if g = f then some y else fs.lookup g := by
  by_cases h : g = f
  · subst h
    simp [List.lookup]
  · have e : (g == f) = false := by simpa using h
    rw [if_neg h]
    simp [List.lookup, e]
theorem look_hs {K : PySem.W.Frag} {F : Hp} {f : Str} {d : PyData} : ∀ {fs : List (Str × V)} {ds : List (Str × PyData)}, fs.map (·.1) = ds.map (·.1) → HsA K F (fs.map (·.2)) (ds.map (·.2)) → ds.lookup f = some d → ∃ v, fs.lookup f = some v ∧ Hs K F v d
  | [], [], _, _, e => by cases e
  | (g, v) :: fs, (g', d') :: ds, hn, hd, e => by
    simp only [List.map_cons, List.cons.injEq] at hn
    obtain ⟨hg, hn⟩ := hn
    subst hg
    cases hd with
    | cons h1 h2 =>
      rw [look_cons] at e ⊢
      by_cases q : f = g
      · rw [if_pos q] at e ⊢
        cases e
        exact ⟨v, rfl, h1⟩
      · rw [if_neg q] at e ⊢
        exact look_hs hn h2 e
  | [], _ :: _, hn, _, _ => by cases hn
  | _ :: _, [], hn, _, _ => by cases hn
theorem pd_xf (i : Nat) {x n : Str} {a C : Addr} {oe : Obj} {cls : Value} {d : Option Addr} {pn : List (Addr × Obj)} {pos p : Pos} (T : XfC X.K C) (hno : PySem.W.findIn X.K (.ref C) n = some none) (hz : L2N.Zn cls d oe) (hf : ∃ vs, oe.data = .fields vs)
    (hv : PE (X.suite a ((a, oe) :: pn)) (.Name x p) (tVar i)) (hb : attributeBase (.Name x p) n X.env (eval (.Name x p) X.env) = eval (.Name x p) X.env := by rfl) : PD (X.suite a ((a, oe) :: pn)) W (.Attribute (.Name x p) n pos) (wXf i a cls d C n) := by
  refine pe_imp (pe_xf T hno hz.zc hf hv hb) ?_
  rintro σ H Q ⟨B, F, env, Qd, Xd, so, w, ok, okx⟩
  unfold wXf at w
  split at w
  · rename_i a' c' dd' xx hs
    obtain ⟨rfl, rfl, rfl, eC, dx, hl, q⟩ := w
    obtain ⟨e, ec, d0, fs, ed, hh, hn, ha⟩ := so.slots i _ (slot_some hs (by simp))
    obtain ⟨v, hlv, hvd⟩ := look_hs hn ha hl
    exact ⟨_, e, rfl, by rw [ec, eC], d0, fs, v, ed, hh, hlv, ok v H F dx so.fo.refl hvd q⟩
  · exact w.elim
/-- a def called within an except suite -/
theorem pd_callH {e : Expr} {es : List Expr} {pos p : Pos} {x : Str} {f : Addr} {fd : FuncData} {ps : List Str} {n k : Nat} {c : Ct} {wa : WA} (hc : L2H.HotC X) (F : L2H.FnH X.prog X.w X.K X.mg X.base (L2N.CX X.prog X.w) k f fd ps (spC X.K n c)) (hr : L2H.RoomH k X.A) (tk : L2N.Takes X W)
    (hg : Gl X x) (hm : X.mg x = some (.ref f)) (hk : PySem.W.keepIn X.K (.ref f) = true) (hb : Binds X.K fd ps []) (ha : PAd X W (e :: es) wa)
    (hdb : (x == ("__debug__" : Str)) = false := by decide) (he : starEach (e :: es) X.env = (false, eval e X.env) :: starEach es X.env := by rfl) (hpl : (backTo pos (starEach es X.env)).any (·.1) = false := by rfl) :
    PD X W (.Call (.Name x p) (e :: es) [] pos) (wCall n c wa) :=
  pe_imp (L2H.pe_callH F hr hc hg hm hk hb (fun σ => L2N.passAt tk σ) ha hdb he hpl) le_call
theorem hot_suite {a : Addr} {oe : Obj} {cls : Value} {d : Option Addr} {pn : List (Addr × Obj)} (hz : L2N.Zn cls d oe) (hf : ∃ vs, oe.data = .fields vs) : L2H.HotC (X.suite a ((a, oe) :: pn)) := by
  obtain ⟨vs, e⟩ := hf
  exact ⟨(a, oe), ⟨rfl, vs, e, hz.2.2 vs e⟩, List.mem_cons_self⟩
theorem roomH_suite {a : Addr} {k : Nat} {pn : List (Addr × Obj)} (h : Room k X.A) : L2H.RoomH k (X.suite a pn).A := ⟨h.dp, h.un⟩
end
section
variable {P : Program} {w : World} {K : PySem.W.Frag} {mg : Str → Option Value} {base : Heap}
theorem fn_okH {x qual : Str} {st : Stmt} {f : Addr} {fd : FuncData} {N ps : List Str} {k n : Nat} {c : Ct} {wb : WS} (F : Fun K x qual st f fd) (S : FnScope N ps (defScope st)) (hn : ps.length = n)
    (hd : ∀ (cdv : Value) (A : Around) (outer : List Env) (s : Shared) (H : Hp) (E : XK) (p : Addr × Obj), L2H.RoomH k (L2H.cxH (L2N.CX P w) P w K mg base N qual (defScope st) f cdv A outer s H E p).A → L2N.Takes (L2H.cxH (L2N.CX P w) P w K mg base N qual (defScope st) f cdv A outer s H E p) (fun cls d _ H => E cls d H) →
      PSsd (L2H.cxH (L2N.CX P w) P w K mg base N qual (defScope st) f cdv A outer s H E p) (fun cls d _ H => E cls d H) (defBody st) wb) (hw : ∀ ss Qd Xd, c ss Qd Xd → wb (endsOf Qd Xd) (startE N.length ss)) :
    L2H.FnH P w K mg base (L2N.CX P w) (k + 1) f fd ps (spC K n c) := by
  obtain ⟨oc, od, kV, doc, pm, an, cdv, ct, osl, rfl, lk, hcd⟩ := F.ex
  refine L2H.fn_ofH lk hcd S (fun vs H Q E h => by rw [h.1, hn]) fun A outer s H vs Q E p hot hr h => ?_
  obtain ⟨hl, pl, F0, ss, Qd, Xd, fo, ha, hc, hq, hx⟩ := h
  refine ⟨_, hd cdv A outer s H E p hr (L2N.takes_of rfl rfl rfl rfl), ?_⟩
  refine ⟨bsOf pl F0 H, F0, startE N.length ss, endsOf Qd Xd, so_start fo ha, hw ss Qd Xd hc, ?_⟩
  exact ⟨fun σ' H' F' env' so _ q => hq .non H' F' .none so.fo .non q, fun _ _ _ _ _ _ z => z.elim, fun _ _ _ _ _ _ z => z.elim, hq, fun cc dd σ' H' F' env' x so _ hx' q => hx cc dd H' F' x so.fo hx' q⟩
end
end Hw
-- HwG
set_option Elab.async false
set_option linter.all false
set_option maxRecDepth 100000
set_option maxHeartbeats 2000000
namespace Hw
open PySem L2
/-! ### the law's own draws -/
/-- what a draw promises -/
def cTake : Ct := fun ss Q _ => ∃ m : Int, ss = [.pool, .val (.int m)] ∧ 0 < m ∧ m < 1073741824 ∧ ∀ r : Int, 0 ≤ r → r < m → Q (.int r)
def spTk : Sp := fun vs H Q _ => ∃ (p l : Addr) (a b c n m : Int) (xs : List Int), vs = [.ref p, .int m] ∧ 0 < m ∧ m < 1073741824 ∧ p ≠ l ∧ H p = some (.lst [.ref l, .int a, .int b, .int c, .int n]) ∧ H l = some (.lst (xs.map V.int)) ∧
  ∀ (a' b' : Int) (xs' : List Int) (r : Int) (H' : Hp), 0 ≤ r → r < m → H' p = some (.lst [.ref l, .int a', .int b', .int c, .int n]) → H' l = some (.lst (xs'.map V.int)) → (∀ d o, d ≠ p → d ≠ l → H d = some o → H' d = some o) → Q (.int r) H'
theorem take_imp {K : PySem.W.Frag} (vs : List V) (H : Hp) (Q : VK) (E : XK) (h : spC K 2 cTake vs H Q E) : spTk vs H Q E := by
  obtain ⟨hl, pl, F, ss, Qd, Xd, fo, ha, ⟨m, rfl, h0, h1, hq⟩, ok, _⟩ := h
  match vs, hl, ha with
  | [v1, v2], _, ⟨⟨p, l, e, e1⟩, ⟨hv2, _⟩⟩ =>
    obtain ⟨⟨f1, f2, ne, a, b, c, n, xs, g1, g2⟩, m1, m2⟩ := fo.pool p l e
    refine ⟨p, l, a, b, c, n, m, xs, by rw [e1, dp_int hv2], h0, h1, ne, g1, g2, fun a' b' xs' r H' r0 r1 k1 k2 k3 => ?_⟩
    have e0 : pl = some (p, l) := e
    have mem : p ∈ (bsOf pl F H).M ∧ l ∈ (bsOf pl F H).M := by
      subst e0
      exact ⟨by simp [bsOf, plM], by simp [bsOf, plM]⟩
    refine ok (.int r) H' F (.int r) ⟨fun b' x h => ?_, Evl.Ex.refl _, fun a h' x => .inl x, fun b' x h hm => ?_, fun b' h => ?_, fun p' l' e' => ?_⟩ (.int r) (hq r r0 r1)
    · exact k3 b' x (ne_of_none h f1) (ne_of_none h f2) (fo.fh _ _ h)
    · exact k3 b' x (fun z => hm (z ▸ mem.1)) (fun z => hm (z ▸ mem.2)) h
    · show H b' = none
      cases q : H b' with
      | none => rfl
      | some o =>
        by_cases n1 : b' = p
        · rw [n1, k1] at h; cases h
        · by_cases n2 : b' = l
          · rw [n2, k2] at h; cases h
          · rw [k3 b' o n1 n2 q] at h; cases h
    · have e' : pl = some (p', l') := e'
      rw [e0] at e'
      cases e'
      exact ⟨⟨f1, f2, ne, a', b', c, n, xs', k1, k2⟩, .inl mem.1, .inl mem.2⟩
/-- some int comes back -/
def cInt2 : Ct := fun ss Q _ => ∃ a b : Int, ss = [.val (.int a), .val (.int b)] ∧ ∀ r : Int, Q (.int r)
theorem call_int2 {K : PySem.W.Frag} {a b : Int} {H : Hp} {Q : VK} {E : XK} (h : ∀ (r : Int) (H' : Hp), (∀ d o, H d = some o → H' d = some o) → Q (.int r) H') : spC K 2 cInt2 [.int a, .int b] H Q E := by
  have fo : FO (bsOf none (fun _ => none) H) H (fun _ => none) := {
    fh := fun a o z => by cases z
    f0 := Evl.Ex.refl _
    fresh := fun a o z => by cases z
    keep := fun _ _ z _ => z
    dom := fun _ z => z
    pool := fun p l z => by cases z }
  refine ⟨rfl, none, fun _ => none, [.val (.int a), .val (.int b)], fun d => ∃ r : Int, d = .int r, fun _ => False, fo, ⟨.int a, .int b, trivial⟩, ⟨a, b, rfl, fun r => ⟨r, rfl⟩⟩, fun v H' F' d fo hv hd => ?_, fun _ _ _ _ _ _ _ z => z.elim⟩
  obtain ⟨r, e⟩ := hd
  subst e
  rw [dp_int hv]
  exact h r H' fun d o z => fo.keep d o z (by simp [bsOf, plM])
def spInt2 : Sp := fun vs H Q _ => ∃ a b : Int, vs = [.int a, .int b] ∧ ∀ r : Int, Q (.int r) H
def spPool (K : PySem.W.Frag) : Sp := fun vs H Q _ => ∃ (a : Addr) (ns : List Int), vs = [.ref a] ∧ SqL K H a (ns.map V.int) ∧ ∀ (p l : Addr) (seed n : Int), H l = none → H p = none → p ≠ l → Q (.ref p) (upd (upd H l (.lst (ns.map V.int))) p (.lst [.ref l, .int 0, .int 0, .int seed, .int n]))

/-- name = [.. for ..] on one line -/
theorem psd_lcC {X : Cx} {W : WX} {st : Stmt} {i : Nat} {wi : WI} {g : TG} {js : List Nat} {wb : PyData → Option (List PyData)} {wt : WT} {we : WE} {vs : List Nat} (h : PS X st (tAsg (tLc (LI X.K W wi) g (LT X.K W0 wt) (LE X.K W0 we) vs) (gName i))) (hg : Bnd X.K g js wb) (hjs : ∀ j ∈ js, j ∈ vs) :
    PSd X W st (wAsgC i (wLc wi js wb wt we vs)) := by
  refine ps_imp h ?_
  rintro D σ H ⟨B, F, env, Ed, so, w, ok⟩
  refine lf_lc hg hjs σ H _ ⟨B, F, env, _, _, so, w, fun a vs H1 F1 ds s1 hf1 ha hh hd q => ?_, ok.okx so⟩
  refine ok.nx _ H1 F1 _ ((so.step s1).putC i hf1 (so.fo.dom a ha) hh hd (fun p l e => ?_) (fun j xs hj hs' => ?_)) s1.f0 q
  · obtain ⟨⟨_, _, _, a0, b0, c0, n0, xs0, g1, g2⟩, _⟩ := so.fo.pool p l e
    exact ⟨(ne_of_none g1 ha).symm, (ne_of_none g2 ha).symm⟩
  · obtain ⟨a', vs', e, _, _, hh', _⟩ := so.slots j _ hj
    rw [hs'] at e
    cases e
    rw [ha] at hh'
    cases hh'
theorem psd_lcV {X : Cx} {W : WX} {st : Stmt} {i : Nat} {wi : WI} {g : TG} {js : List Nat} {wb : PyData → Option (List PyData)} {wt : WT} {we : WE} {vs : List Nat} (h : PS X st (tAsg (tLc (LI X.K W wi) g (LT X.K W0 wt) (LE X.K W0 we) vs) (gName i))) (hg : Bnd X.K g js wb) (hjs : ∀ j ∈ js, j ∈ vs) :
    PSd X W st (wAsg i (wLc wi js wb wt we vs)) := by
  refine ps_imp h ?_
  rintro D σ H ⟨B, F, env, Ed, so, w, ok⟩
  refine lf_lc hg hjs σ H _ (lf_le σ H _ ⟨B, F, env, _, _, so, w, fun v H1 F1 d s1 hv q => ok.nx _ H1 F1 _ ((so.step s1).put i hv) s1.f0 q, ok.okx so⟩)
/-- a def of the text, callable by its promise -/
structure Cl (P : Program) (w : World) (K : PySem.W.Frag) (mg : Str → Option Value) (base : Heap) (k : Nat) (x : Str) (st : Stmt) (ps : List Str) (n : Nat) (c : Ct) (a : Addr) (fd : FuncData) : Prop where
  F : FnOk P w K mg base (L2N.CX P w) k a fd ps (spC K n c)
  m : mg x = some (.ref a)
  kp : PySem.W.keepIn K (.ref a) = true
  b : Binds K fd ps []
  fn : Fun K x x st a fd
/-- .. by a promise of another form -/
structure ClS (P : Program) (w : World) (K : PySem.W.Frag) (mg : Str → Option Value) (base : Heap) (k : Nat) (x : Str) (st : Stmt) (ps : List Str) (sp : Sp) (a : Addr) (fd : FuncData) : Prop where
  F : FnOk P w K mg base (L2N.CX P w) k a fd ps sp
  m : mg x = some (.ref a)
  kp : PySem.W.keepIn K (.ref a) = true
  b : Binds K fd ps []
theorem passN {X : Cx} : Passes (L2N.CX X.prog X.w) X E0 := fun _ _ _ _ _ _ _ h => by
  obtain ⟨_, _, _, _, _, _, _, _, _, _, _, _, z⟩ := h
  exact z.elim
/-- the class of the refusals: C, its __init__ fI -/
structure Tx0 (K : PySem.W.Frag) (mg : Str → Option Value) (C fI : Addr) (fdI : FuncData) : Prop where
  oex : OexC K C
  hi : PySem.W.findIn K (.ref C) "__init__" = some (some (.ref fI))
  ti : PySem.W.typeIn K (.ref fI) = some (.type "function")
  ini : ∀ (P : Program) (w : World) (base : Heap), FnOk P w K mg base (L2N.CX P w) 1 fI fdI ["self", "word", "at"] (spIni C "word" "at")
  bi : Binds K fdI ["self", "word", "at"] []
  m_C : mg "NotUsable" = some (.ref C)
  exm : PySem.W.exmOne K (.ref C) (.ref C) = some true
  xf : XfC K C
  no_word : PySem.W.findIn K (.ref C) "word" = some none
  no_at : PySem.W.findIn K (.ref C) "at" = some none
end Hw
-- K01c
set_option Elab.async false
set_option linter.all false
set_option maxRecDepth 100000
set_option maxHeartbeats 4000000
namespace Hw
open PySem L2
/-! ### quotients -/
abbrev Qo := Int × Int
def dq (q : Qo) : PyData := .tuple [.int q.1, .int q.2]
def isI : PyData → Bool
  | .int _ => true
  | _ => false
def IsQuo (q : Qo) : Prop := 1 ≤ q.2 ∧ Nat.gcd q.1.natAbs q.2.natAbs = 1
instance (q : Qo) : Decidable (IsQuo q) := inferInstanceAs (Decidable (_ ∧ _))
def isQ : PyData → Bool
  | .tuple [.int a, .int b] => decide (1 ≤ b) && decide (Nat.gcd a.natAbs b.natAbs = 1)
  | _ => false
def isRow : PyData → Bool
  | .tuple ds => ds.all isQ
  | _ => false
def dlen : PyData → Nat
  | .tuple ds => ds.length
  | _ => 0
def Bt (n : Nat) (q : Qo) : Prop := q.1.natAbs < 2 ^ n ∧ q.2.natAbs < 2 ^ n
/-- s stands for t / b -/
def Eqq (s : Qo) (u : Qo) : Prop := s.1 * u.2 = s.2 * u.1
instance (s u : Qo) : Decidable (Eqq s u) := inferInstanceAs (Decidable (_ = _))
def stepU (u q : Qo) : Qo := (u.1 * q.2 + q.1 * u.2, u.2 * q.2)
def sumU (qs : List Qo) : Qo := qs.foldl stepU (0, 1)
def pr (q r : Qo) : Qo := (q.1 * r.1, q.2 * r.2)
def nu (C : Addr) (w : Str) : XD := ⟨C, [("at", .int (-1)), ("word", .str w)]⟩
/-! ### what each def promises -/
def c_need (C : Addr) : Ct := fun ss Q X => ∃ (b : Bool) (w : Str), ss = [.val (.bool b), .val (.str w)] ∧ (b = true → Q .none) ∧ (b = false → X (nu C w))
def c_is_integer : Ct := fun ss Q _ => ∃ d, ss = [.val d] ∧ Q (.bool (isI d))
def c_is_quotient : Ct := fun ss Q _ => ∃ d, ss = [.val d] ∧ Q (.bool (isQ d))
def c_is_row : Ct := fun ss Q _ => ∃ d, ss = [.val d] ∧ dlen d ≤ 10000000 ∧ Q (.bool (isRow d))
def c_reduced : Ct := fun ss Q _ => ∃ (a b : Int) (m : Nat), ss = [.val (.int a), .val (.int b)] ∧ b ≠ 0 ∧ b.natAbs < 2 ^ m ∧ 0 < m ∧ m ≤ 9000 ∧
  ∀ s : Qo, IsQuo s → Eqq s (a, b) → s.1.natAbs ≤ a.natAbs → s.2.natAbs ≤ b.natAbs → Q (dq s)
def c_sum_of_two : Ct := fun ss Q _ => ∃ (q r : Qo) (m n : Nat), ss = [.val (dq q), .val (dq r)] ∧ IsQuo q ∧ IsQuo r ∧ Bt m q ∧ Bt n r ∧ 0 < m ∧ 0 < n ∧ m + n + 1 ≤ 9000 ∧
  ∀ s : Qo, IsQuo s → Eqq s (stepU q r) → Bt (m + n + 1) s → Q (dq s)
def c_product_of_two : Ct := fun ss Q _ => ∃ (q r : Qo) (m n : Nat), ss = [.val (dq q), .val (dq r)] ∧ IsQuo q ∧ IsQuo r ∧ Bt m q ∧ Bt n r ∧ 0 < m ∧ 0 < n ∧ m + n ≤ 9000 ∧
  ∀ s : Qo, IsQuo s → Eqq s (pr q r) → Bt (m + n) s → Q (dq s)
def c_lies_below : Ct := fun ss Q _ => ∃ (q r : Qo) (m : Nat), ss = [.val (dq q), .val (dq r)] ∧ Bt m q ∧ Bt m r ∧ 0 < m ∧ m ≤ 100000 ∧ Q (.bool (decide (q.1 * r.2 < r.1 * q.2)))
/-- both are quotients, else a refusal -/
def cTwo (C : Addr) (P : Qo → Qo → DQ → Prop) : Ct := fun ss Q X => ∃ d e, ss = [.val d, .val e] ∧ (isQ d = false → X (nu C "one")) ∧ (isQ d = true → isQ e = false → X (nu C "other")) ∧ ∀ q r, d = dq q → e = dq r → IsQuo q → IsQuo r → P q r Q
def c_need_two (C : Addr) : Ct := cTwo C fun _ _ Q => Q .none
def pPlus (q r : Qo) (Q : DQ) : Prop := ∃ m n : Nat, Bt m q ∧ Bt n r ∧ 0 < m ∧ 0 < n ∧ m + n + 1 ≤ 9000 ∧ ∀ s : Qo, IsQuo s → Eqq s (stepU q r) → Bt (m + n + 1) s → Q (dq s)
def c_plus (C : Addr) : Ct := cTwo C pPlus
def pTimes (q r : Qo) (Q : DQ) : Prop := ∃ m n : Nat, Bt m q ∧ Bt n r ∧ 0 < m ∧ 0 < n ∧ m + n ≤ 9000 ∧ ∀ s : Qo, IsQuo s → Eqq s (pr q r) → Bt (m + n) s → Q (dq s)
def c_times (C : Addr) : Ct := cTwo C pTimes
def pLess (q r : Qo) (Q : DQ) : Prop := ∃ m : Nat, Bt m q ∧ Bt m r ∧ 0 < m ∧ m ≤ 100000 ∧ Q (.bool (decide (q.1 * r.2 < r.1 * q.2)))
def c_is_less (C : Addr) : Ct := cTwo C pLess
def rowOf (d : PyData) (qs : List Qo) : Prop := d = .list (qs.map dq) ∨ d = .tuple (qs.map dq)
def pSum (qs : List Qo) (Q : DQ) : Prop := (∀ q ∈ qs, IsQuo q) ∧ ∃ n : Nat, 0 < n ∧ (∀ q ∈ qs, Bt n q) ∧ 1 + qs.length * (n + 1) ≤ 9000 ∧ ∀ s : Qo, IsQuo s → Eqq s (sumU qs) → Bt (1 + qs.length * (n + 1)) s → Q (dq s)
def c_sum_of_row : Ct := fun ss Q _ => ∃ d qs, ss = [.val d] ∧ rowOf d qs ∧ pSum qs Q
def c_total (C : Addr) : Ct := fun ss Q X => ∃ d, ss = [.val d] ∧ dlen d ≤ 10000000 ∧ (isRow d = false → X (nu C "row")) ∧ ∀ qs, d = .tuple (qs.map dq) → (∀ q ∈ qs, IsQuo q) → pSum qs Q
def pWei (qs rs : List Qo) (Q : DQ) : Prop := ∃ n : Nat, 0 < n ∧ (∀ q ∈ qs, Bt n q) ∧ (∀ q ∈ rs, Bt n q) ∧ 1 + qs.length * (2 * n + 1) ≤ 9000 ∧ ∀ s : Qo, IsQuo s → Eqq s (sumU (List.zipWith pr qs rs)) → Bt (1 + qs.length * (2 * n + 1)) s → Q (dq s)
def c_weighed (C : Addr) : Ct := fun ss Q X => ∃ d e, ss = [.val d, .val e] ∧ dlen d ≤ 10000000 ∧ dlen e ≤ 10000000 ∧ (isRow d = false → X (nu C "row")) ∧ (isRow d = true → (isRow e = false ∨ dlen e ≠ dlen d) → X (nu C "others")) ∧
  ∀ qs rs, d = .tuple (qs.map dq) → e = .tuple (rs.map dq) → qs.length = rs.length → (∀ q ∈ qs, IsQuo q) → (∀ q ∈ rs, IsQuo q) → pWei qs rs Q
/-- the one of them that none is below (lt), above (gt) -/
def pEnd (below : Qo → Qo → Prop) (qs : List Qo) (Q : DQ) : Prop := ∃ n : Nat, 0 < n ∧ n ≤ 100000 ∧ (∀ q ∈ qs, Bt n q) ∧ ∀ s ∈ qs, (∀ q ∈ qs, ¬ below q s) → Q (dq s)
def lt (q r : Qo) : Prop := q.1 * r.2 < r.1 * q.2
def gt (q r : Qo) : Prop := lt r q
def cEnd (C : Addr) (below : Qo → Qo → Prop) : Ct := fun ss Q X => ∃ d, ss = [.val d] ∧ dlen d ≤ 10000000 ∧ ((isRow d = false ∨ dlen d = 0) → X (nu C "row")) ∧ ∀ qs, d = .tuple (qs.map dq) → qs ≠ [] → (∀ q ∈ qs, IsQuo q) → pEnd below qs Q
def c_least_of (C : Addr) : Ct := cEnd C lt
def c_greatest_of (C : Addr) : Ct := cEnd C gt
/-! ### .. of the law's own -/
def c_l_mixed : Ct := cInt2
def c_l_take : Ct := cTake
def c_l_whole : Ct := fun ss Q _ => ∃ d, ss = [.val d] ∧ Q (.bool (isI d))
def c_l_common : Ct := fun ss Q _ => ∃ a b : Int, ss = [.val (.int a), .val (.int b)] ∧ 0 ≤ a ∧ 0 ≤ b ∧ Q (.int ((Nat.gcd a.natAbs b.natAbs : Nat) : Int))
def c_l_low : Ct := fun ss Q _ => ∃ (a b : Int) (m : Nat), ss = [.val (.int a), .val (.int b)] ∧ 1 ≤ b ∧ b.natAbs < 2 ^ m ∧ 0 < m ∧ m ≤ 9000 ∧ ∀ s : Qo, IsQuo s → Eqq s (a, b) → s.1.natAbs ≤ a.natAbs → s.2.natAbs ≤ b.natAbs → Q (dq s)
def c_l_quotient : Ct := fun ss Q _ => ∃ q : Qo, ss = [.val (dq q)] ∧ IsQuo q ∧ Q (.bool true)
def c_l_stands : Ct := fun ss Q _ => ∃ (q : Qo) (t b : Int) (n : Nat), ss = [.val (dq q), .val (.int t), .val (.int b)] ∧ IsQuo q ∧ Bt n q ∧ Bt n (t, b) ∧ 0 < n ∧ n ≤ 100000 ∧ Q (.bool (decide (Eqq q (t, b))))
def bk (k : Int) : Nat := if k = 0 then 5 else if k = 1 then 200 else 1000
def c_l_draw : Ct := fun ss Q _ => ∃ k : Int, ss = [.pool, .val (.int k)] ∧ (k = 0 ∨ k = 1 ∨ k = 2) ∧ ∀ s : Qo, IsQuo s → Bt (bk k) s → Q (dq s)
structure Rows (ls rs : List Qo) (k : Int) : Prop where
  len : rs.length = ls.length
  kk : k = 0 ∨ k = 1 ∨ k = 2
  n : ls.length * (2 * bk k + 1) ≤ 8990
  l40 : ls.length ≤ 40
  ql : ∀ q ∈ ls, IsQuo q ∧ Bt (bk k) q
  qr : ∀ q ∈ rs, IsQuo q ∧ Bt (bk k) q
def c_l_rows : Ct := fun ss Q _ => ss = [.pool] ∧ ∀ ls rs k, Rows ls rs k → Q (.list [.list (ls.map dq), .list (rs.map dq), .int k])
def c_l_bad : Ct := fun ss Q _ => ss = [.pool] ∧ ∀ d, isQ d = false → Q d
def told (d : PyData) : PyData := .tuple [.str "told", d]
def refd (w : Str) : PyData := .tuple [.str "refused", .str w]
def askC (C : Addr) (k : Int) (l r : PyData) (Q : DQ) (X : XQ) : Prop := (k = 0 ∧ c_total C [.val l] Q X) ∨ (k = 1 ∧ c_weighed C [.val l, .val r] Q X) ∨ (k = 2 ∧ c_least_of C [.val l] Q X) ∨ (k = 3 ∧ c_greatest_of C [.val l] Q X)
def c_l_ask (C : Addr) : Ct := fun ss Q _ => ∃ (k : Int) (l r : PyData) (nm : Bool), ss = [.val (.int k), .val l, .val r, .val (.bool nm)] ∧ askC C k l r (fun d => Q (told d)) (fun x => ∃ w : Str, x = nu C w ∧ Q (refd w))
def c_l_sum : Ct := fun ss Q _ => ∃ (ls rs : List Qo) (s : Qo) (n : Nat), ss = [.val (.list (ls.map dq)), .val (.list (rs.map dq)), .val (told (dq s))] ∧ rs.length = ls.length ∧ IsQuo s ∧ Eqq s (sumU (List.zipWith pr ls rs)) ∧ 0 < n ∧ (∀ q ∈ ls, Bt n q) ∧ (∀ q ∈ rs, Bt n q) ∧
  ls.length ≤ 40 ∧ ls.length * (2 * n + 1) ≤ 9000 ∧ Bt 10000 s ∧ Q (.bool true)
def c_l_end : Ct := fun ss Q _ => ∃ (ls : List Qo) (s : Qo) (g : Int), ss = [.val (.list (ls.map dq)), .val (told (dq s)), .val (.int g)] ∧ (g = 1 ∨ g = -1) ∧ ls.length ≤ 80 ∧ (∀ q ∈ ls, Bt 1000 q) ∧ IsQuo s ∧ s ∈ ls ∧ (∀ q ∈ ls, ¬ (if g = 1 then lt q s else gt q s)) ∧ Q (.bool true)
def c_l_folded (C : Addr) : Ct := fun ss Q _ => ∃ (ls rs : List Qo) (s t : Qo), ss = [.val (.list (ls.map dq)), .val (.list (rs.map dq)), .val (dq s), .val (dq t)] ∧ Rows ls rs 0 ∧ IsQuo s ∧ Eqq s (sumU ls) ∧ IsQuo t ∧ Eqq t (sumU (List.zipWith pr ls rs)) ∧ Q (.bool true)
def c_l_ordered (C : Addr) : Ct := fun ss Q _ => ∃ (ls : List Qo), ss = [.val (.list (ls.map dq)), .pool] ∧ ls ≠ [] ∧ ls.length ≤ 80 ∧ (∀ q ∈ ls, IsQuo q ∧ Bt 1000 q) ∧ Q (.bool true)
def c_l_refused (C : Addr) : Ct := fun ss Q _ => ∃ (ls rs : List Qo) (k : Int) (nm : Bool), ss = [.pool, .val (.list (ls.map dq)), .val (.list (rs.map dq)), .val (.bool nm)] ∧ Rows ls rs k ∧ Q (.bool true)
end Hw
-- K01m
set_option Elab.async false
set_option linter.all false
set_option maxRecDepth 100000
set_option maxHeartbeats 4000000
namespace Hw
open PySem L2
theorem isQ_dq {q : Qo} (h : IsQuo q) : isQ (dq q) = true := by
  obtain ⟨a, b⟩ := q
  simp only [dq, isQ, Bool.and_eq_true, decide_eq_true_eq]
  exact h
theorem isQ_inv : ∀ {d : PyData}, isQ d = true → ∃ q, d = dq q ∧ IsQuo q := by
  intro d h
  unfold isQ at h
  split at h
  · rename_i a b
    simp only [Bool.and_eq_true, decide_eq_true_eq] at h
    exact ⟨(a, b), rfl, h⟩
  · cases h
theorem dq_inj {q r : Qo} (h : dq q = dq r) : q = r := by
  obtain ⟨a, b⟩ := q
  obtain ⟨c, d⟩ := r
  simp only [dq, PyData.tuple.injEq, List.cons.injEq, PyData.int.injEq, and_true] at h
  rw [h.1, h.2]
theorem isQ_iff {q : Qo} : isQ (dq q) = true ↔ IsQuo q := by
  obtain ⟨a, b⟩ := q
  simp only [dq, isQ, Bool.and_eq_true, decide_eq_true_eq]
  exact Iff.rfl
theorem isRow_qs {qs : List Qo} (h : ∀ q ∈ qs, IsQuo q) : isRow (.tuple (qs.map dq)) = true := by
  simp only [isRow, List.all_eq_true, List.mem_map]
  rintro d ⟨q, hq, rfl⟩
  exact isQ_dq (h q hq)
theorem all_inv : ∀ {ds : List PyData}, ds.all isQ = true → ∃ qs : List Qo, ds = qs.map dq ∧ ∀ q ∈ qs, IsQuo q
  | [], _ => ⟨[], rfl, fun q h => by cases h⟩
  | d :: ds, h => by
    simp only [List.all_cons, Bool.and_eq_true] at h
    obtain ⟨q, rfl, hq⟩ := isQ_inv h.1
    obtain ⟨qs, rfl, hs⟩ := all_inv h.2
    exact ⟨q :: qs, rfl, fun r hr => by
      rcases List.mem_cons.mp hr with e | e
      · rw [e]; exact hq
      · exact hs r e⟩
theorem isRow_inv {d : PyData} (h : isRow d = true) : ∃ qs : List Qo, d = .tuple (qs.map dq) ∧ ∀ q ∈ qs, IsQuo q := by
  unfold isRow at h
  split at h
  · obtain ⟨qs, rfl, hq⟩ := all_inv h
    exact ⟨qs, rfl, hq⟩
  · cases h
theorem map_dq_inj : ∀ {qs rs : List Qo}, qs.map dq = rs.map dq → qs = rs
  | [], [], _ => rfl
  | q :: qs, r :: rs, h => by
    simp only [List.map_cons, List.cons.injEq] at h
    rw [dq_inj h.1, map_dq_inj h.2]
  | [], _ :: _, h => by cases h
  | _ :: _, [], h => by cases h
/-- what the lowest terms are -/
theorem red_ok {a b : Int} (hb : b ≠ 0) : let g : Int := ((Nat.gcd a.natAbs b.natAbs : Nat) : Int)
    (b < 0 → IsQuo (a.fdiv (-g), b.fdiv (-g)) ∧ Eqq (a.fdiv (-g), b.fdiv (-g)) (a, b) ∧ (a.fdiv (-g)).natAbs ≤ a.natAbs ∧ (b.fdiv (-g)).natAbs ≤ b.natAbs) ∧
    (¬ b < 0 → IsQuo (a.fdiv g, b.fdiv g) ∧ Eqq (a.fdiv g, b.fdiv g) (a, b) ∧ (a.fdiv g).natAbs ≤ a.natAbs ∧ (b.fdiv g).natAbs ≤ b.natAbs) := by
  intro g
  have hg0 : 0 < Nat.gcd a.natAbs b.natAbs := Nat.gcd_pos_of_pos_right _ (by omega)
  have hg : g ≠ 0 := by show ((Nat.gcd a.natAbs b.natAbs : Nat) : Int) ≠ 0; omega
  have d1 : g ∣ a := Int.ofNat_dvd_left.mpr (Nat.gcd_dvd_left _ _)
  have d2 : g ∣ b := Int.ofNat_dvd_left.mpr (Nat.gcd_dvd_right _ _)
  obtain ⟨x, hx⟩ := d1
  obtain ⟨y, hy⟩ := d2
  have nx : a.natAbs = Nat.gcd a.natAbs b.natAbs * x.natAbs := by
    conv => lhs; rw [hx, Int.natAbs_mul]
    rfl
  have ny : b.natAbs = Nat.gcd a.natAbs b.natAbs * y.natAbs := by
    conv => lhs; rw [hy, Int.natAbs_mul]
    rfl
  have cop : Nat.gcd x.natAbs y.natAbs = 1 := by
    obtain ⟨G, hG⟩ : ∃ G, G = Nat.gcd a.natAbs b.natAbs := ⟨_, rfl⟩
    have e := hG
    rw [← hG] at nx ny hg0
    rw [nx, ny, Nat.gcd_mul_left] at e
    have e2 : G * Nat.gcd x.natAbs y.natAbs = G * 1 := by omega
    exact Nat.eq_of_mul_eq_mul_left hg0 e2
  have le1 : x.natAbs ≤ a.natAbs := by rw [nx]; exact Nat.le_mul_of_pos_left _ hg0
  have le2 : y.natAbs ≤ b.natAbs := by rw [ny]; exact Nat.le_mul_of_pos_left _ hg0
  have f1 : a.fdiv g = x := by rw [hx]; exact Int.mul_fdiv_cancel_left x hg
  have f2 : b.fdiv g = y := by rw [hy]; exact Int.mul_fdiv_cancel_left y hg
  have hng : -g ≠ 0 := by omega
  have f3 : a.fdiv (-g) = -x := by
    rw [hx, show g * x = (-g) * (-x) by rw [Int.neg_mul_neg]]
    exact Int.mul_fdiv_cancel_left (-x) hng
  have f4 : b.fdiv (-g) = -y := by
    rw [hy, show g * y = (-g) * (-y) by rw [Int.neg_mul_neg]]
    exact Int.mul_fdiv_cancel_left (-y) hng
  have gpos : 0 < g := by show (0 : Int) < ((Nat.gcd a.natAbs b.natAbs : Nat) : Int); omega
  have y0 : y ≠ 0 := fun z => by rw [z, Int.mul_zero] at hy; exact hb hy
  refine ⟨fun hlt => ?_, fun hge => ?_⟩
  · rw [f3, f4]
    have yneg : y < 0 := by
      rcases Int.lt_trichotomy y 0 with z | z | z
      · exact z
      · exact absurd z y0
      · have := Int.mul_pos gpos z
        omega
    refine ⟨⟨by show 1 ≤ -y; omega, by show Nat.gcd (-x).natAbs (-y).natAbs = 1; rw [Int.natAbs_neg, Int.natAbs_neg]; exact cop⟩, ?_, by rw [Int.natAbs_neg]; exact le1, by rw [Int.natAbs_neg]; exact le2⟩
    show -x * b = -y * a
    rw [hx, hy]
    grind
  · rw [f1, f2]
    have ypos : 0 < y := by
      rcases Int.lt_trichotomy y 0 with z | z | z
      · have := Int.mul_neg_of_pos_of_neg gpos z
        omega
      · exact absurd z y0
      · exact z
    refine ⟨⟨by show 1 ≤ y; omega, cop⟩, ?_, le1, le2⟩
    show x * b = y * a
    rw [hx, hy]
    grind
/-- the same value, in lowest terms, is the same -/
theorem quo_eq {s t : Qo} (hs : IsQuo s) (ht : IsQuo t) (e : s.1 * t.2 = s.2 * t.1) : s = t := by
  obtain ⟨a, b⟩ := s
  obtain ⟨c, d⟩ := t
  obtain ⟨h1, h2⟩ := hs
  obtain ⟨h3, h4⟩ := ht
  simp only at *
  have en : a.natAbs * d.natAbs = b.natAbs * c.natAbs := by rw [← Int.natAbs_mul, ← Int.natAbs_mul, e]
  have d1 : b.natAbs ∣ d.natAbs := by
    have z : b.natAbs ∣ a.natAbs * d.natAbs := ⟨c.natAbs, en⟩
    exact Nat.Coprime.dvd_of_dvd_mul_left (Nat.Coprime.symm h2) z
  have d2 : d.natAbs ∣ b.natAbs := by
    have z : d.natAbs ∣ c.natAbs * b.natAbs := ⟨a.natAbs, by rw [Nat.mul_comm c.natAbs, ← en, Nat.mul_comm]⟩
    exact Nat.Coprime.dvd_of_dvd_mul_left (Nat.Coprime.symm h4) z
  have eb : b.natAbs = d.natAbs := Nat.dvd_antisymm d1 d2
  have ebd : b = d := by omega
  subst ebd
  have : a = c := by
    have z : a * b = c * b := by rw [e, Int.mul_comm]
    exact Int.eq_of_mul_eq_mul_right (by omega) z
  rw [this]
theorem eqq_uniq {s t u : Qo} (hs : IsQuo s) (ht : IsQuo t) (hu : u.2 ≠ 0) (e1 : Eqq s u) (e2 : Eqq t u) : s = t := by
  refine quo_eq hs ht ?_
  unfold Eqq at e1 e2
  have z : u.2 * (s.1 * t.2) = u.2 * (s.2 * t.1) := by grind
  exact Int.eq_of_mul_eq_mul_left hu z
theorem eqq_step {f g p U P : Qo} (hf : f.2 ≠ 0) (hp : p.2 ≠ 0) (e1 : Eqq f U) (e2 : Eqq p P) (e3 : Eqq g (stepU f p)) : Eqq g (stepU U P) := by
  unfold Eqq stepU at *
  simp only at *
  have z : (f.2 * p.2) * (g.1 * (U.2 * P.2)) = (f.2 * p.2) * (g.2 * (U.1 * P.2 + P.1 * U.2)) := by grind
  exact Int.eq_of_mul_eq_mul_left (Int.mul_ne_zero hf hp) z
theorem stepU_comm (u a b : Qo) : stepU (stepU u a) b = stepU (stepU u b) a := by
  unfold stepU
  simp only [Prod.mk.injEq]
  constructor <;> grind
theorem sumU_perm {xs ys : List Qo} (h : xs.Perm ys) : sumU xs = sumU ys := by
  unfold sumU
  exact h.foldl_eq' (fun a _ b _ u => stepU_comm u a b) _
theorem sumU_pos : ∀ {qs : List Qo} {u : Qo}, 0 < u.2 → (∀ q ∈ qs, 0 < q.2) → 0 < (qs.foldl stepU u).2
  | [], u, hu, _ => hu
  | q :: qs, u, hu, h => sumU_pos (qs := qs) (u := stepU u q) (Int.mul_pos hu (h q List.mem_cons_self)) fun r hr => h r (List.mem_cons_of_mem _ hr)
/-! ### bits -/
theorem lt_pow_mono {x m n : Nat} (h : x < 2 ^ m) (l : m ≤ n) : x < 2 ^ n := Nat.lt_of_lt_of_le h (Nat.pow_le_pow_right (by decide) l)
theorem Bt.mono {m n : Nat} {q : Qo} (h : Bt m q) (l : m ≤ n) : Bt n q := ⟨lt_pow_mono h.1 l, lt_pow_mono h.2 l⟩
theorem mul_bt {x y m n : Nat} (h1 : x < 2 ^ m) (h2 : y < 2 ^ n) : x * y < 2 ^ (m + n) := by rw [Nat.pow_add]; exact Nat.mul_lt_mul'' h1 h2
theorem imul_bt {x y : Int} {m n : Nat} (h1 : x.natAbs < 2 ^ m) (h2 : y.natAbs < 2 ^ n) : (x * y).natAbs < 2 ^ (m + n) := by rw [Int.natAbs_mul]; exact mul_bt h1 h2
theorem iadd_bt {x y : Int} {m : Nat} (h1 : x.natAbs < 2 ^ m) (h2 : y.natAbs < 2 ^ m) : (x + y).natAbs < 2 ^ (m + 1) := by
  have : (x + y).natAbs ≤ x.natAbs + y.natAbs := Int.natAbs_add_le x y
  rw [Nat.pow_succ]
  omega
theorem stepU_bt {u q : Qo} {m n : Nat} (h1 : Bt m u) (h2 : Bt n q) : Bt (m + n + 1) (stepU u q) :=
  ⟨iadd_bt (imul_bt h1.1 h2.1 |> fun _ => imul_bt h1.1 h2.2) (by rw [Nat.add_comm m n]; exact imul_bt h2.1 h1.2), lt_pow_mono (imul_bt h1.2 h2.2) (by omega)⟩
theorem pr_bt {q r : Qo} {m n : Nat} (h1 : Bt m q) (h2 : Bt n r) : Bt (m + n) (pr q r) := ⟨imul_bt h1.1 h2.1, imul_bt h1.2 h2.2⟩
/-- what a product of two numbers of so many bits asks -/
theorem wide {x y : Int} {m n : Nat} (h1 : x.natAbs < 2 ^ m) (h2 : y.natAbs < 2 ^ n) (hm : 0 < m) (hn : 0 < n) (h : m + n ≤ 1000000) : x.natAbs.log2 + y.natAbs.log2 < 1000000 := wide_mul h1 h2 hm hn h
theorem log_lt {x : Int} {m : Nat} (h : x.natAbs < 2 ^ m) (h0 : 0 < m) (h9 : m ≤ 9000) : x.natAbs.log2 < 9000 := Nat.lt_of_lt_of_le (PySem.Flt.log2_lt_of h0 h) h9
theorem Eqq.bt {s u : Qo} {n : Nat} (h1 : s.1.natAbs ≤ u.1.natAbs) (h2 : s.2.natAbs ≤ u.2.natAbs) (h : Bt n u) : Bt n s := ⟨Nat.lt_of_le_of_lt h1 h.1, Nat.lt_of_le_of_lt h2 h.2⟩
theorem gcd_lt {a b : Int} {m : Nat} (hb : b ≠ 0) (h : b.natAbs < 2 ^ m) : ((Nat.gcd a.natAbs b.natAbs : Nat) : Int).natAbs < 2 ^ m := by
  rw [Int.natAbs_natCast]
  exact Nat.lt_of_le_of_lt (Nat.gcd_le_right _ (by omega)) h
theorem gcd_ne {a b : Int} (hb : b ≠ 0) : ((Nat.gcd a.natAbs b.natAbs : Nat) : Int) ≠ 0 := by
  have : 0 < Nat.gcd a.natAbs b.natAbs := Nat.gcd_pos_of_pos_right _ (by omega)
  omega
/-! ### shapes of data -/
theorem shp_int (i : Int) : SeqAt.shaped (.int i) = true := rfl
theorem shp_dq (q : Qo) : SeqAt.shaped (dq q) = true := by
  unfold dq
  rfl
theorem eqv_int (i j : Int) : PyData.eqv (.int i) (.int j) = decide (i = j) := by
  simp only [PyData.eqv]
  rw [Bool.eq_iff_iff]; simp
theorem eqv_dq (q r : Qo) : PyData.eqv (dq q) (dq r) = decide (q = r) := by
  obtain ⟨a, b⟩ := q
  obtain ⟨c, d⟩ := r
  simp only [dq, PyData.eqv, PyData.eqvAll, Bool.and_true]
  rw [Bool.eq_iff_iff]
  simp
end Hw
-- K01d
set_option Elab.async false
set_option linter.all false
set_option maxRecDepth 100000
set_option maxHeartbeats 4000000
open PySem L2
namespace K01
open Hw
def topS (i : Nat) : Stmt := PySem.Challenge.pw_hungwall_k01_whole_sums_and_orders.main.body.getD i (.Pass ⟨0, 0, 0, 0⟩)
/-- what the top has left of names -/
structure Tx (K : PySem.W.Frag) (mg : Str → Option Value) (C fI : Addr) (fdI : FuncData) : Prop extends Tx0 K mg C fI fdI where
  m_gcd : mg "gcd" = some (.builtin "math.gcd")
  b_abs : mg "abs" = none
  b_all : mg "all" = none
  b_bool : mg "bool" = none
  b_int : mg "int" = none
  b_isinstance : mg "isinstance" = none
  b_len : mg "len" = none
  b_list : mg "list" = none
  b_range : mg "range" = none
  b_str : mg "str" = none
  b_tuple : mg "tuple" = none
  b_zip : mg "zip" = none
section
variable {P : Program} {w : World} {K : PySem.W.Frag} {mg : Str → Option Value} {base : Heap} {C fI : Addr} {fdI : FuncData}
abbrev s_need : Stmt := topS 6
abbrev N_need : List Str := ["holds", "word"]
theorem sc_need : FnScope N_need ["holds", "word"] (defScope s_need) := ⟨rfl, rfl, rfl, by decide +kernel, rfl, by decide +kernel, by decide +kernel⟩
def w_need (C : Addr) : WS := (wIfS (wNot (wTst (wVar 0)))
  (wRaise2 C "word" "at" (aCons (wVar 1) (aCons (wUn fNeg (wC (.int 1))) aNil)))
  wNext)
theorem d_need {a_need : Addr} (T : Tx K mg C fI fdI) : ∀ (cdv : Value) (A : Around) (outer : List Env) (s : Shared) (H : Hp) (E : XK), Room 2 (cxOf (L2N.CX P w) P w K mg base N_need "need" (defScope s_need) a_need cdv A outer s H E).A → L2N.Takes (cxOf (L2N.CX P w) P w K mg base N_need "need" (defScope s_need) a_need cdv A outer s H E) (fun cls d _ H => E cls d H) →
    PSsd (cxOf (L2N.CX P w) P w K mg base N_need "need" (defScope s_need) a_need cdv A outer s H E) (fun cls d _ H => E cls d H) (defBody s_need) (w_need C) := fun cdv A outer s H E hr tk =>
  (psd_one (psd_if (ptd_not (ptd_val (pd_var 0)))
  (psd_one (psd_raise2 rfl tk (pmk_two T.oex T.hi T.ti (T.ini P w base) (hr.mono (by decide)) T.bi passN (by rfl) T.m_C (pad_cons (pd_var 1) (pad_cons (pd_un un_neg und_neg pd_int) pad_nil)))))
  psd_nil))
abbrev s_is_integer : Stmt := topS 8
abbrev N_is_integer : List Str := ["thing"]
theorem sc_is_integer : FnScope N_is_integer ["thing"] (defScope s_is_integer) := ⟨rfl, rfl, rfl, by decide +kernel, rfl, by decide +kernel, by decide +kernel⟩
def w_is_integer  : WS := (wRet (vAnd (wIsi isInt (wVar 0)) (vNot (wIsi isBool (wVar 0)))))
theorem d_is_integer {a_is_integer : Addr} (T : Tx K mg C fI fdI) : ∀ (cdv : Value) (A : Around) (outer : List Env) (s : Shared) (H : Hp) (E : XK), Room 0 (cxOf (L2N.CX P w) P w K mg base N_is_integer "is_integer" (defScope s_is_integer) a_is_integer cdv A outer s H E).A → L2N.Takes (cxOf (L2N.CX P w) P w K mg base N_is_integer "is_integer" (defScope s_is_integer) a_is_integer cdv A outer s H E) (fun cls d _ H => E cls d H) →
    PSsd (cxOf (L2N.CX P w) P w K mg base N_is_integer "is_integer" (defScope s_is_integer) a_is_integer cdv A outer s H E) (fun cls d _ H => E cls d H) (defBody s_is_integer) w_is_integer := fun cdv A outer s H E hr tk =>
  (psd_one (psd_ret (pd_and (pd_isi kit_int (by rfl) T.b_isinstance (pd_var 0) (pe_bltn (by rfl) T.b_int (by decide +kernel) rfl)) (pd_one (pd_not (pd_isi kit_bool (by rfl) T.b_isinstance (pd_var 0) (pe_bltn (by rfl) T.b_bool (by decide +kernel) rfl)))))))
abbrev s_is_quotient : Stmt := topS 9
abbrev N_is_quotient : List Str := ["thing", "top", "bottom"]
theorem sc_is_quotient : FnScope N_is_quotient ["thing"] (defScope s_is_quotient) := ⟨rfl, rfl, rfl, by decide +kernel, rfl, by decide +kernel, by decide +kernel⟩
def w_is_quotient  : WS := (wSeq (wIfS (wOr (wNot (wTst (wIsi isTup (wVar 0)))) (wTst (wOp fNe (wCB fLen (aCons (wVar 0) aNil)) (wC (.int 2)))))
  (wRet (wC (.bool false)))
  wNext)
  (wSeq (wAsgB [1, 2] (bTup 2) (wVar 0))
  (wSeq (wIfS (wOr (wNot (wTst (wCall 1 c_is_integer (aCons (wVar 1) aNil)))) (wNot (wTst (wCall 1 c_is_integer (aCons (wVar 2) aNil)))))
  (wRet (wC (.bool false)))
  wNext)
  (wRet (vAnd (wOp fGe (wVar 2) (wC (.int 1))) (wOp fEq (wCB fGcd (aCons (wVar 1) (aCons (wVar 2) aNil))) (wC (.int 1))))))))
theorem d_is_quotient {a_is_quotient : Addr} (T : Tx K mg C fI fdI) {a_is_integer : Addr} {fd_is_integer : FuncData} (H_is_integer : Cl P w K mg base 1 "is_integer" s_is_integer ["thing"] 1 c_is_integer a_is_integer fd_is_integer) : ∀ (cdv : Value) (A : Around) (outer : List Env) (s : Shared) (H : Hp) (E : XK), Room 1 (cxOf (L2N.CX P w) P w K mg base N_is_quotient "is_quotient" (defScope s_is_quotient) a_is_quotient cdv A outer s H E).A → L2N.Takes (cxOf (L2N.CX P w) P w K mg base N_is_quotient "is_quotient" (defScope s_is_quotient) a_is_quotient cdv A outer s H E) (fun cls d _ H => E cls d H) →
    PSsd (cxOf (L2N.CX P w) P w K mg base N_is_quotient "is_quotient" (defScope s_is_quotient) a_is_quotient cdv A outer s H E) (fun cls d _ H => E cls d H) (defBody s_is_quotient) w_is_quotient := fun cdv A outer s H E hr tk =>
  (psd_cons (psd_if (PWd.pt (pwd_or (ptd_not (ptd_val (pd_isi kit_tup (by rfl) T.b_isinstance (pd_var 0) (pe_bltn (by rfl) T.b_tuple (by decide +kernel) rfl)))) (pwd_or1 (ptd_cmp (op_neD hr.units) opd_ne (pd_cb cad_len call_len (by rfl) T.b_len PySem.boot_len (pad_cons (pd_var 0) pad_nil)) pd_int (nomark _)))))
  (psd_one (psd_ret pd_bl))
  psd_nil)
  (psd_cons (psd_setB (ps_asg (pd_var 0) (pg_tup rfl (pgs_cons (pg_name (i := 1) sc_is_quotient.nd rfl (by first | exact Or.inl rfl | exact Or.inr rfl)) (pgs_cons (pg_name (i := 2) sc_is_quotient.nd rfl (by first | exact Or.inl rfl | exact Or.inr rfl)) pgs_nil)))) (bnd_tup (js := [1, 2]) rfl))
  (psd_cons (psd_if (PWd.pt (pwd_or (ptd_not (ptd_val (pd_call tk H_is_integer.F (hr.mono (by decide)) (by rfl) H_is_integer.m H_is_integer.kp H_is_integer.b (pad_cons (pd_var 1) pad_nil)))) (pwd_or1 (ptd_not (ptd_val (pd_call tk H_is_integer.F (hr.mono (by decide)) (by rfl) H_is_integer.m H_is_integer.kp H_is_integer.b (pad_cons (pd_var 2) pad_nil)))))))
  (psd_one (psd_ret pd_bl))
  psd_nil)
  (psd_one (psd_ret (pd_and (pd_cmp op_ge opd_ge (pd_var 2) pd_int (nomark _)) (pd_one (pd_cmp (op_eqD hr.units) opd_eq (pd_cfun cad_gcd cr_gcd (by rfl) T.m_gcd (pad_cons (pd_var 1) (pad_cons (pd_var 2) pad_nil))) pd_int (nomark _)))))))))
abbrev s_is_row : Stmt := topS 10
abbrev N_is_row : List Str := ["thing", "part"]
theorem sc_is_row : FnScope N_is_row ["thing"] (defScope s_is_row) := ⟨rfl, rfl, rfl, by decide +kernel, rfl, by decide +kernel, by decide +kernel⟩
def w_is_row  : WS := (wRet (vAnd (wIsi isTup (wVar 0)) (wCB fAll (aCons (wLc (wSeqI (wVar 0)) [1] bName wYes (wCall 1 c_is_quotient (aCons (wVar 1) aNil)) [1]) aNil))))
theorem d_is_row {a_is_row : Addr} (T : Tx K mg C fI fdI) {a_is_quotient : Addr} {fd_is_quotient : FuncData} (H_is_quotient : Cl P w K mg base 2 "is_quotient" s_is_quotient ["thing"] 1 c_is_quotient a_is_quotient fd_is_quotient) : ∀ (cdv : Value) (A : Around) (outer : List Env) (s : Shared) (H : Hp) (E : XK), Room 2 (cxOf (L2N.CX P w) P w K mg base N_is_row "is_row" (defScope s_is_row) a_is_row cdv A outer s H E).A → L2N.Takes (cxOf (L2N.CX P w) P w K mg base N_is_row "is_row" (defScope s_is_row) a_is_row cdv A outer s H E) (fun cls d _ H => E cls d H) →
    PSsd (cxOf (L2N.CX P w) P w K mg base N_is_row "is_row" (defScope s_is_row) a_is_row cdv A outer s H E) (fun cls d _ H => E cls d H) (defBody s_is_row) w_is_row := fun cdv A outer s H E hr tk =>
  (psd_one (psd_ret (pd_and (pd_isi kit_tup (by rfl) T.b_isinstance (pd_var 0) (pe_bltn (by rfl) T.b_tuple (by decide +kernel) rfl)) (pd_one (pd_cb cad_all (cr_all rfl) (by rfl) T.b_all (by decide +kernel) (pad_cons (PF.pd (pf_lc (own := [("part", 1)]) (js := [1]) rfl sc_is_row.nd (pid_seq (pd_var 0)) (blkOk_by (N := N_is_row) (sc := defScope s_is_row) (by decide +kernel)) (fun _ _ _ _ _ => (pg_name (i := 1) sc_is_row.nd rfl (by first | exact Or.inl rfl | exact Or.inr rfl))) bnd_name (by decide) (fun _ _ _ _ _ => pts_yes) (fun _ _ _ _ _ => (pd_call takesN0 H_is_quotient.F (hr.mono (by decide)) (by rfl) H_is_quotient.m H_is_quotient.kp H_is_quotient.b (pad_cons (pd_var 1) pad_nil))))) pad_nil))))))
abbrev s_reduced : Stmt := topS 12
abbrev N_reduced : List Str := ["top", "bottom", "shared"]
theorem sc_reduced : FnScope N_reduced ["top", "bottom"] (defScope s_reduced) := ⟨rfl, rfl, rfl, by decide +kernel, rfl, by decide +kernel, by decide +kernel⟩
def w_reduced  : WS := (wSeq (wAsg 2 (wCB fGcd (aCons (wVar 0) (aCons (wVar 1) aNil))))
  (wSeq (wIfS (wTst (wOp fLt (wVar 1) (wC (.int 0))))
  (wAsg 2 (wUn fNeg (wVar 2)))
  wNext)
  (wRet (wTup (aCons (wOp fDiv (wVar 0) (wVar 2)) (aCons (wOp fDiv (wVar 1) (wVar 2)) aNil))))))
theorem d_reduced {a_reduced : Addr} (T : Tx K mg C fI fdI) : ∀ (cdv : Value) (A : Around) (outer : List Env) (s : Shared) (H : Hp) (E : XK), Room 0 (cxOf (L2N.CX P w) P w K mg base N_reduced "reduced" (defScope s_reduced) a_reduced cdv A outer s H E).A → L2N.Takes (cxOf (L2N.CX P w) P w K mg base N_reduced "reduced" (defScope s_reduced) a_reduced cdv A outer s H E) (fun cls d _ H => E cls d H) →
    PSsd (cxOf (L2N.CX P w) P w K mg base N_reduced "reduced" (defScope s_reduced) a_reduced cdv A outer s H E) (fun cls d _ H => E cls d H) (defBody s_reduced) w_reduced := fun cdv A outer s H E hr tk =>
  (psd_cons (psd_set sc_reduced.nd rfl (by first | exact Or.inl rfl | exact Or.inr rfl) (pd_cfun cad_gcd cr_gcd (by rfl) T.m_gcd (pad_cons (pd_var 0) (pad_cons (pd_var 1) pad_nil))))
  (psd_cons (psd_if (ptd_cmp op_lt opd_lt (pd_var 1) pd_int (nomark _))
  (psd_one (psd_set sc_reduced.nd rfl (by first | exact Or.inl rfl | exact Or.inr rfl) (pd_un un_neg und_neg (pd_var 2))))
  psd_nil)
  (psd_one (psd_ret (pd_tup (pad_cons (pd_op op_fdivX opd_div (pd_var 0) (pd_var 2)) (pad_cons (pd_op op_fdivX opd_div (pd_var 1) (pd_var 2)) pad_nil)))))))
abbrev s_sum_of_two : Stmt := topS 13
abbrev N_sum_of_two : List Str := ["one", "other"]
theorem sc_sum_of_two : FnScope N_sum_of_two ["one", "other"] (defScope s_sum_of_two) := ⟨rfl, rfl, rfl, by decide +kernel, rfl, by decide +kernel, by decide +kernel⟩
def w_sum_of_two  : WS := (wRet (wCall 2 c_reduced (aCons (wOp fAdd (wOp fMulA (wOp fIx (wVar 0) (wC (.int 0))) (wOp fIx (wVar 1) (wC (.int 1)))) (wOp fMulA (wOp fIx (wVar 1) (wC (.int 0))) (wOp fIx (wVar 0) (wC (.int 1))))) (aCons (wOp fMulA (wOp fIx (wVar 0) (wC (.int 1))) (wOp fIx (wVar 1) (wC (.int 1)))) aNil))))
theorem d_sum_of_two {a_sum_of_two : Addr} (T : Tx K mg C fI fdI) {a_reduced : Addr} {fd_reduced : FuncData} (H_reduced : Cl P w K mg base 1 "reduced" s_reduced ["top", "bottom"] 2 c_reduced a_reduced fd_reduced) : ∀ (cdv : Value) (A : Around) (outer : List Env) (s : Shared) (H : Hp) (E : XK), Room 1 (cxOf (L2N.CX P w) P w K mg base N_sum_of_two "sum_of_two" (defScope s_sum_of_two) a_sum_of_two cdv A outer s H E).A → L2N.Takes (cxOf (L2N.CX P w) P w K mg base N_sum_of_two "sum_of_two" (defScope s_sum_of_two) a_sum_of_two cdv A outer s H E) (fun cls d _ H => E cls d H) →
    PSsd (cxOf (L2N.CX P w) P w K mg base N_sum_of_two "sum_of_two" (defScope s_sum_of_two) a_sum_of_two cdv A outer s H E) (fun cls d _ H => E cls d H) (defBody s_sum_of_two) w_sum_of_two := fun cdv A outer s H E hr tk =>
  (psd_one (psd_ret (pd_call tk H_reduced.F (hr.mono (by decide)) (by rfl) H_reduced.m H_reduced.kp H_reduced.b (pad_cons (pd_op op_addA opd_add (pd_op op_mulA opd_mulA (pd_ix ix_seq opd_ix (pd_var 0) pd_int (fun _ _ => rfl)) (pd_ix ix_seq opd_ix (pd_var 1) pd_int (fun _ _ => rfl))) (pd_op op_mulA opd_mulA (pd_ix ix_seq opd_ix (pd_var 1) pd_int (fun _ _ => rfl)) (pd_ix ix_seq opd_ix (pd_var 0) pd_int (fun _ _ => rfl)))) (pad_cons (pd_op op_mulA opd_mulA (pd_ix ix_seq opd_ix (pd_var 0) pd_int (fun _ _ => rfl)) (pd_ix ix_seq opd_ix (pd_var 1) pd_int (fun _ _ => rfl))) pad_nil)))))
abbrev s_product_of_two : Stmt := topS 14
abbrev N_product_of_two : List Str := ["one", "other"]
theorem sc_product_of_two : FnScope N_product_of_two ["one", "other"] (defScope s_product_of_two) := ⟨rfl, rfl, rfl, by decide +kernel, rfl, by decide +kernel, by decide +kernel⟩
def w_product_of_two  : WS := (wRet (wCall 2 c_reduced (aCons (wOp fMulA (wOp fIx (wVar 0) (wC (.int 0))) (wOp fIx (wVar 1) (wC (.int 0)))) (aCons (wOp fMulA (wOp fIx (wVar 0) (wC (.int 1))) (wOp fIx (wVar 1) (wC (.int 1)))) aNil))))
theorem d_product_of_two {a_product_of_two : Addr} (T : Tx K mg C fI fdI) {a_reduced : Addr} {fd_reduced : FuncData} (H_reduced : Cl P w K mg base 1 "reduced" s_reduced ["top", "bottom"] 2 c_reduced a_reduced fd_reduced) : ∀ (cdv : Value) (A : Around) (outer : List Env) (s : Shared) (H : Hp) (E : XK), Room 1 (cxOf (L2N.CX P w) P w K mg base N_product_of_two "product_of_two" (defScope s_product_of_two) a_product_of_two cdv A outer s H E).A → L2N.Takes (cxOf (L2N.CX P w) P w K mg base N_product_of_two "product_of_two" (defScope s_product_of_two) a_product_of_two cdv A outer s H E) (fun cls d _ H => E cls d H) →
    PSsd (cxOf (L2N.CX P w) P w K mg base N_product_of_two "product_of_two" (defScope s_product_of_two) a_product_of_two cdv A outer s H E) (fun cls d _ H => E cls d H) (defBody s_product_of_two) w_product_of_two := fun cdv A outer s H E hr tk =>
  (psd_one (psd_ret (pd_call tk H_reduced.F (hr.mono (by decide)) (by rfl) H_reduced.m H_reduced.kp H_reduced.b (pad_cons (pd_op op_mulA opd_mulA (pd_ix ix_seq opd_ix (pd_var 0) pd_int (fun _ _ => rfl)) (pd_ix ix_seq opd_ix (pd_var 1) pd_int (fun _ _ => rfl))) (pad_cons (pd_op op_mulA opd_mulA (pd_ix ix_seq opd_ix (pd_var 0) pd_int (fun _ _ => rfl)) (pd_ix ix_seq opd_ix (pd_var 1) pd_int (fun _ _ => rfl))) pad_nil)))))
abbrev s_lies_below : Stmt := topS 15
abbrev N_lies_below : List Str := ["one", "other"]
theorem sc_lies_below : FnScope N_lies_below ["one", "other"] (defScope s_lies_below) := ⟨rfl, rfl, rfl, by decide +kernel, rfl, by decide +kernel, by decide +kernel⟩
def w_lies_below  : WS := (wRet (wOp fLt (wOp fMulA (wOp fIx (wVar 0) (wC (.int 0))) (wOp fIx (wVar 1) (wC (.int 1)))) (wOp fMulA (wOp fIx (wVar 1) (wC (.int 0))) (wOp fIx (wVar 0) (wC (.int 1))))))
theorem d_lies_below {a_lies_below : Addr} (T : Tx K mg C fI fdI) : ∀ (cdv : Value) (A : Around) (outer : List Env) (s : Shared) (H : Hp) (E : XK), Room 0 (cxOf (L2N.CX P w) P w K mg base N_lies_below "lies_below" (defScope s_lies_below) a_lies_below cdv A outer s H E).A → L2N.Takes (cxOf (L2N.CX P w) P w K mg base N_lies_below "lies_below" (defScope s_lies_below) a_lies_below cdv A outer s H E) (fun cls d _ H => E cls d H) →
    PSsd (cxOf (L2N.CX P w) P w K mg base N_lies_below "lies_below" (defScope s_lies_below) a_lies_below cdv A outer s H E) (fun cls d _ H => E cls d H) (defBody s_lies_below) w_lies_below := fun cdv A outer s H E hr tk =>
  (psd_one (psd_ret (pd_cmp op_lt opd_lt (pd_op op_mulA opd_mulA (pd_ix ix_seq opd_ix (pd_var 0) pd_int (fun _ _ => rfl)) (pd_ix ix_seq opd_ix (pd_var 1) pd_int (fun _ _ => rfl))) (pd_op op_mulA opd_mulA (pd_ix ix_seq opd_ix (pd_var 1) pd_int (fun _ _ => rfl)) (pd_ix ix_seq opd_ix (pd_var 0) pd_int (fun _ _ => rfl))) (nomark _))))
abbrev s_need_two : Stmt := topS 16
abbrev N_need_two : List Str := ["one", "other"]
theorem sc_need_two : FnScope N_need_two ["one", "other"] (defScope s_need_two) := ⟨rfl, rfl, rfl, by decide +kernel, rfl, by decide +kernel, by decide +kernel⟩
def w_need_two (C : Addr) : WS := (wSeq (wExp (wCall 2 (c_need C) (aCons (wCall 1 c_is_quotient (aCons (wVar 0) aNil)) (aCons (wC (.str "one")) aNil))))
  (wExp (wCall 2 (c_need C) (aCons (wCall 1 c_is_quotient (aCons (wVar 1) aNil)) (aCons (wC (.str "other")) aNil)))))
theorem d_need_two {a_need_two : Addr} (T : Tx K mg C fI fdI) {a_is_quotient : Addr} {fd_is_quotient : FuncData} {a_need : Addr} {fd_need : FuncData} (H_need : Cl P w K mg base 3 "need" s_need ["holds", "word"] 2 (c_need C) a_need fd_need) (H_is_quotient : Cl P w K mg base 2 "is_quotient" s_is_quotient ["thing"] 1 c_is_quotient a_is_quotient fd_is_quotient) : ∀ (cdv : Value) (A : Around) (outer : List Env) (s : Shared) (H : Hp) (E : XK), Room 3 (cxOf (L2N.CX P w) P w K mg base N_need_two "need_two" (defScope s_need_two) a_need_two cdv A outer s H E).A → L2N.Takes (cxOf (L2N.CX P w) P w K mg base N_need_two "need_two" (defScope s_need_two) a_need_two cdv A outer s H E) (fun cls d _ H => E cls d H) →
    PSsd (cxOf (L2N.CX P w) P w K mg base N_need_two "need_two" (defScope s_need_two) a_need_two cdv A outer s H E) (fun cls d _ H => E cls d H) (defBody s_need_two) (w_need_two C) := fun cdv A outer s H E hr tk =>
  (psd_cons (psd_expr (pd_call tk H_need.F (hr.mono (by decide)) (by rfl) H_need.m H_need.kp H_need.b (pad_cons (pd_call tk H_is_quotient.F (hr.mono (by decide)) (by rfl) H_is_quotient.m H_is_quotient.kp H_is_quotient.b (pad_cons (pd_var 0) pad_nil)) (pad_cons pd_str pad_nil))))
  (psd_one (psd_expr (pd_call tk H_need.F (hr.mono (by decide)) (by rfl) H_need.m H_need.kp H_need.b (pad_cons (pd_call tk H_is_quotient.F (hr.mono (by decide)) (by rfl) H_is_quotient.m H_is_quotient.kp H_is_quotient.b (pad_cons (pd_var 1) pad_nil)) (pad_cons pd_str pad_nil))))))
abbrev s_plus : Stmt := topS 17
abbrev N_plus : List Str := ["one", "other"]
theorem sc_plus : FnScope N_plus ["one", "other"] (defScope s_plus) := ⟨rfl, rfl, rfl, by decide +kernel, rfl, by decide +kernel, by decide +kernel⟩
def w_plus (C : Addr) : WS := (wSeq (wExp (wCall 2 (c_need_two C) (aCons (wVar 0) (aCons (wVar 1) aNil))))
  (wRet (wCall 2 c_sum_of_two (aCons (wVar 0) (aCons (wVar 1) aNil)))))
theorem d_plus {a_plus : Addr} (T : Tx K mg C fI fdI) {a_sum_of_two : Addr} {fd_sum_of_two : FuncData} {a_need_two : Addr} {fd_need_two : FuncData} (H_need_two : Cl P w K mg base 4 "need_two" s_need_two ["one", "other"] 2 (c_need_two C) a_need_two fd_need_two) (H_sum_of_two : Cl P w K mg base 2 "sum_of_two" s_sum_of_two ["one", "other"] 2 c_sum_of_two a_sum_of_two fd_sum_of_two) : ∀ (cdv : Value) (A : Around) (outer : List Env) (s : Shared) (H : Hp) (E : XK), Room 4 (cxOf (L2N.CX P w) P w K mg base N_plus "plus" (defScope s_plus) a_plus cdv A outer s H E).A → L2N.Takes (cxOf (L2N.CX P w) P w K mg base N_plus "plus" (defScope s_plus) a_plus cdv A outer s H E) (fun cls d _ H => E cls d H) →
    PSsd (cxOf (L2N.CX P w) P w K mg base N_plus "plus" (defScope s_plus) a_plus cdv A outer s H E) (fun cls d _ H => E cls d H) (defBody s_plus) (w_plus C) := fun cdv A outer s H E hr tk =>
  (psd_cons (psd_expr (pd_call tk H_need_two.F (hr.mono (by decide)) (by rfl) H_need_two.m H_need_two.kp H_need_two.b (pad_cons (pd_var 0) (pad_cons (pd_var 1) pad_nil))))
  (psd_one (psd_ret (pd_call tk H_sum_of_two.F (hr.mono (by decide)) (by rfl) H_sum_of_two.m H_sum_of_two.kp H_sum_of_two.b (pad_cons (pd_var 0) (pad_cons (pd_var 1) pad_nil))))))
abbrev s_times : Stmt := topS 18
abbrev N_times : List Str := ["one", "other"]
theorem sc_times : FnScope N_times ["one", "other"] (defScope s_times) := ⟨rfl, rfl, rfl, by decide +kernel, rfl, by decide +kernel, by decide +kernel⟩
def w_times (C : Addr) : WS := (wSeq (wExp (wCall 2 (c_need_two C) (aCons (wVar 0) (aCons (wVar 1) aNil))))
  (wRet (wCall 2 c_product_of_two (aCons (wVar 0) (aCons (wVar 1) aNil)))))
theorem d_times {a_times : Addr} (T : Tx K mg C fI fdI) {a_product_of_two : Addr} {fd_product_of_two : FuncData} {a_need_two : Addr} {fd_need_two : FuncData} (H_need_two : Cl P w K mg base 4 "need_two" s_need_two ["one", "other"] 2 (c_need_two C) a_need_two fd_need_two) (H_product_of_two : Cl P w K mg base 2 "product_of_two" s_product_of_two ["one", "other"] 2 c_product_of_two a_product_of_two fd_product_of_two) : ∀ (cdv : Value) (A : Around) (outer : List Env) (s : Shared) (H : Hp) (E : XK), Room 4 (cxOf (L2N.CX P w) P w K mg base N_times "times" (defScope s_times) a_times cdv A outer s H E).A → L2N.Takes (cxOf (L2N.CX P w) P w K mg base N_times "times" (defScope s_times) a_times cdv A outer s H E) (fun cls d _ H => E cls d H) →
    PSsd (cxOf (L2N.CX P w) P w K mg base N_times "times" (defScope s_times) a_times cdv A outer s H E) (fun cls d _ H => E cls d H) (defBody s_times) (w_times C) := fun cdv A outer s H E hr tk =>
  (psd_cons (psd_expr (pd_call tk H_need_two.F (hr.mono (by decide)) (by rfl) H_need_two.m H_need_two.kp H_need_two.b (pad_cons (pd_var 0) (pad_cons (pd_var 1) pad_nil))))
  (psd_one (psd_ret (pd_call tk H_product_of_two.F (hr.mono (by decide)) (by rfl) H_product_of_two.m H_product_of_two.kp H_product_of_two.b (pad_cons (pd_var 0) (pad_cons (pd_var 1) pad_nil))))))
abbrev s_is_less : Stmt := topS 19
abbrev N_is_less : List Str := ["one", "other"]
theorem sc_is_less : FnScope N_is_less ["one", "other"] (defScope s_is_less) := ⟨rfl, rfl, rfl, by decide +kernel, rfl, by decide +kernel, by decide +kernel⟩
def w_is_less (C : Addr) : WS := (wSeq (wExp (wCall 2 (c_need_two C) (aCons (wVar 0) (aCons (wVar 1) aNil))))
  (wRet (wCall 2 c_lies_below (aCons (wVar 0) (aCons (wVar 1) aNil)))))
theorem d_is_less {a_is_less : Addr} (T : Tx K mg C fI fdI) {a_lies_below : Addr} {fd_lies_below : FuncData} {a_need_two : Addr} {fd_need_two : FuncData} (H_need_two : Cl P w K mg base 4 "need_two" s_need_two ["one", "other"] 2 (c_need_two C) a_need_two fd_need_two) (H_lies_below : Cl P w K mg base 1 "lies_below" s_lies_below ["one", "other"] 2 c_lies_below a_lies_below fd_lies_below) : ∀ (cdv : Value) (A : Around) (outer : List Env) (s : Shared) (H : Hp) (E : XK), Room 4 (cxOf (L2N.CX P w) P w K mg base N_is_less "is_less" (defScope s_is_less) a_is_less cdv A outer s H E).A → L2N.Takes (cxOf (L2N.CX P w) P w K mg base N_is_less "is_less" (defScope s_is_less) a_is_less cdv A outer s H E) (fun cls d _ H => E cls d H) →
    PSsd (cxOf (L2N.CX P w) P w K mg base N_is_less "is_less" (defScope s_is_less) a_is_less cdv A outer s H E) (fun cls d _ H => E cls d H) (defBody s_is_less) (w_is_less C) := fun cdv A outer s H E hr tk =>
  (psd_cons (psd_expr (pd_call tk H_need_two.F (hr.mono (by decide)) (by rfl) H_need_two.m H_need_two.kp H_need_two.b (pad_cons (pd_var 0) (pad_cons (pd_var 1) pad_nil))))
  (psd_one (psd_ret (pd_call tk H_lies_below.F (hr.mono (by decide)) (by rfl) H_lies_below.m H_lies_below.kp H_lies_below.b (pad_cons (pd_var 0) (pad_cons (pd_var 1) pad_nil))))))
abbrev s_sum_of_row : Stmt := topS 21
abbrev N_sum_of_row : List Str := ["row", "found", "part"]
theorem sc_sum_of_row : FnScope N_sum_of_row ["row"] (defScope s_sum_of_row) := ⟨rfl, rfl, rfl, by decide +kernel, rfl, by decide +kernel, by decide +kernel⟩
def w_sum_of_row  : WS := (wSeq (wAsg 1 (wTup (aCons (wC (.int 0)) (aCons (wC (.int 1)) aNil))))
  (wSeq (wFor (wSeqI (wVar 0)) [2] bName
  (wAsg 1 (wCall 2 c_sum_of_two (aCons (wVar 1) (aCons (wVar 2) aNil)))))
  (wRet (wVar 1))))
theorem d_sum_of_row {a_sum_of_row : Addr} (T : Tx K mg C fI fdI) {a_sum_of_two : Addr} {fd_sum_of_two : FuncData} (H_sum_of_two : Cl P w K mg base 2 "sum_of_two" s_sum_of_two ["one", "other"] 2 c_sum_of_two a_sum_of_two fd_sum_of_two) : ∀ (cdv : Value) (A : Around) (outer : List Env) (s : Shared) (H : Hp) (E : XK), Room 2 (cxOf (L2N.CX P w) P w K mg base N_sum_of_row "sum_of_row" (defScope s_sum_of_row) a_sum_of_row cdv A outer s H E).A → L2N.Takes (cxOf (L2N.CX P w) P w K mg base N_sum_of_row "sum_of_row" (defScope s_sum_of_row) a_sum_of_row cdv A outer s H E) (fun cls d _ H => E cls d H) →
    PSsd (cxOf (L2N.CX P w) P w K mg base N_sum_of_row "sum_of_row" (defScope s_sum_of_row) a_sum_of_row cdv A outer s H E) (fun cls d _ H => E cls d H) (defBody s_sum_of_row) w_sum_of_row := fun cdv A outer s H E hr tk =>
  (psd_cons (psd_set sc_sum_of_row.nd rfl (by first | exact Or.inl rfl | exact Or.inr rfl) (pd_tup (pad_cons pd_int (pad_cons pd_int pad_nil))))
  (psd_cons (psd_for .leaving rfl (pid_seq (pd_var 0)) (pg_name (i := 2) sc_sum_of_row.nd rfl (by first | exact Or.inl rfl | exact Or.inr rfl)) bnd_name
  (psd_one (psd_set sc_sum_of_row.nd rfl (by first | exact Or.inl rfl | exact Or.inr rfl) (pd_call tk H_sum_of_two.F (hr.mono (by decide)) (by rfl) H_sum_of_two.m H_sum_of_two.kp H_sum_of_two.b (pad_cons (pd_var 1) (pad_cons (pd_var 2) pad_nil))))))
  (psd_one (psd_ret (pd_var 1)))))
abbrev s_total : Stmt := topS 22
abbrev N_total : List Str := ["row"]
theorem sc_total : FnScope N_total ["row"] (defScope s_total) := ⟨rfl, rfl, rfl, by decide +kernel, rfl, by decide +kernel, by decide +kernel⟩
def w_total (C : Addr) : WS := (wSeq (wExp (wCall 2 (c_need C) (aCons (wCall 1 c_is_row (aCons (wVar 0) aNil)) (aCons (wC (.str "row")) aNil))))
  (wRet (wCall 1 c_sum_of_row (aCons (wVar 0) aNil))))
theorem d_total {a_total : Addr} (T : Tx K mg C fI fdI) {a_is_row : Addr} {fd_is_row : FuncData} {a_sum_of_row : Addr} {fd_sum_of_row : FuncData} {a_need : Addr} {fd_need : FuncData} (H_need : Cl P w K mg base 3 "need" s_need ["holds", "word"] 2 (c_need C) a_need fd_need) (H_sum_of_row : Cl P w K mg base 3 "sum_of_row" s_sum_of_row ["row"] 1 c_sum_of_row a_sum_of_row fd_sum_of_row) (H_is_row : Cl P w K mg base 3 "is_row" s_is_row ["thing"] 1 c_is_row a_is_row fd_is_row) : ∀ (cdv : Value) (A : Around) (outer : List Env) (s : Shared) (H : Hp) (E : XK), Room 3 (cxOf (L2N.CX P w) P w K mg base N_total "total" (defScope s_total) a_total cdv A outer s H E).A → L2N.Takes (cxOf (L2N.CX P w) P w K mg base N_total "total" (defScope s_total) a_total cdv A outer s H E) (fun cls d _ H => E cls d H) →
    PSsd (cxOf (L2N.CX P w) P w K mg base N_total "total" (defScope s_total) a_total cdv A outer s H E) (fun cls d _ H => E cls d H) (defBody s_total) (w_total C) := fun cdv A outer s H E hr tk =>
  (psd_cons (psd_expr (pd_call tk H_need.F (hr.mono (by decide)) (by rfl) H_need.m H_need.kp H_need.b (pad_cons (pd_call tk H_is_row.F (hr.mono (by decide)) (by rfl) H_is_row.m H_is_row.kp H_is_row.b (pad_cons (pd_var 0) pad_nil)) (pad_cons pd_str pad_nil))))
  (psd_one (psd_ret (pd_call tk H_sum_of_row.F (hr.mono (by decide)) (by rfl) H_sum_of_row.m H_sum_of_row.kp H_sum_of_row.b (pad_cons (pd_var 0) pad_nil)))))
abbrev s_weighed : Stmt := topS 23
abbrev N_weighed : List Str := ["row", "others", "one", "other"]
theorem sc_weighed : FnScope N_weighed ["row", "others"] (defScope s_weighed) := ⟨rfl, rfl, rfl, by decide +kernel, rfl, by decide +kernel, by decide +kernel⟩
def w_weighed (C : Addr) : WS := (wSeq (wExp (wCall 2 (c_need C) (aCons (wCall 1 c_is_row (aCons (wVar 0) aNil)) (aCons (wC (.str "row")) aNil))))
  (wSeq (wExp (wCall 2 (c_need C) (aCons (vAnd (wCall 1 c_is_row (aCons (wVar 1) aNil)) (wOp fEq (wCB fLen (aCons (wVar 1) aNil)) (wCB fLen (aCons (wVar 0) aNil)))) (aCons (wC (.str "others")) aNil))))
  (wRet (wCall 1 c_sum_of_row (aCons (wLc (wZip (wVar 0) (wVar 1)) [2, 3] (bTup 2) wYes (wCall 2 c_product_of_two (aCons (wVar 2) (aCons (wVar 3) aNil))) [2, 3]) aNil)))))
theorem d_weighed {a_weighed : Addr} (T : Tx K mg C fI fdI) {a_product_of_two : Addr} {fd_product_of_two : FuncData} {a_is_row : Addr} {fd_is_row : FuncData} {a_sum_of_row : Addr} {fd_sum_of_row : FuncData} {a_need : Addr} {fd_need : FuncData} (H_need : Cl P w K mg base 3 "need" s_need ["holds", "word"] 2 (c_need C) a_need fd_need) (H_sum_of_row : Cl P w K mg base 3 "sum_of_row" s_sum_of_row ["row"] 1 c_sum_of_row a_sum_of_row fd_sum_of_row) (H_is_row : Cl P w K mg base 3 "is_row" s_is_row ["thing"] 1 c_is_row a_is_row fd_is_row) (H_product_of_two : Cl P w K mg base 2 "product_of_two" s_product_of_two ["one", "other"] 2 c_product_of_two a_product_of_two fd_product_of_two) : ∀ (cdv : Value) (A : Around) (outer : List Env) (s : Shared) (H : Hp) (E : XK), Room 3 (cxOf (L2N.CX P w) P w K mg base N_weighed "weighed" (defScope s_weighed) a_weighed cdv A outer s H E).A → L2N.Takes (cxOf (L2N.CX P w) P w K mg base N_weighed "weighed" (defScope s_weighed) a_weighed cdv A outer s H E) (fun cls d _ H => E cls d H) →
    PSsd (cxOf (L2N.CX P w) P w K mg base N_weighed "weighed" (defScope s_weighed) a_weighed cdv A outer s H E) (fun cls d _ H => E cls d H) (defBody s_weighed) (w_weighed C) := fun cdv A outer s H E hr tk =>
  (psd_cons (psd_expr (pd_call tk H_need.F (hr.mono (by decide)) (by rfl) H_need.m H_need.kp H_need.b (pad_cons (pd_call tk H_is_row.F (hr.mono (by decide)) (by rfl) H_is_row.m H_is_row.kp H_is_row.b (pad_cons (pd_var 0) pad_nil)) (pad_cons pd_str pad_nil))))
  (psd_cons (psd_expr (pd_call tk H_need.F (hr.mono (by decide)) (by rfl) H_need.m H_need.kp H_need.b (pad_cons (pd_and (pd_call tk H_is_row.F (hr.mono (by decide)) (by rfl) H_is_row.m H_is_row.kp H_is_row.b (pad_cons (pd_var 1) pad_nil)) (pd_one (pd_cmp (op_eqD hr.units) opd_eq (pd_cb cad_len call_len (by rfl) T.b_len PySem.boot_len (pad_cons (pd_var 1) pad_nil)) (pd_cb cad_len call_len (by rfl) T.b_len PySem.boot_len (pad_cons (pd_var 0) pad_nil)) (nomark _)))) (pad_cons pd_str pad_nil))))
  (psd_one (psd_ret (pd_call tk H_sum_of_row.F (hr.mono (by decide)) (by rfl) H_sum_of_row.m H_sum_of_row.kp H_sum_of_row.b (pad_cons (PF.pd (pf_lc (own := [("one", 2), ("other", 3)]) (js := [2, 3]) rfl sc_weighed.nd (pid_zip (by rfl) T.b_zip (pd_var 0) (pd_var 1)) (blkOk_by (N := N_weighed) (sc := defScope s_weighed) (by decide +kernel)) (fun _ _ _ _ _ => (pg_tup rfl (pgs_cons (pg_name (i := 2) sc_weighed.nd rfl (by first | exact Or.inl rfl | exact Or.inr rfl)) (pgs_cons (pg_name (i := 3) sc_weighed.nd rfl (by first | exact Or.inl rfl | exact Or.inr rfl)) pgs_nil)))) (bnd_tup (js := [2, 3]) rfl) (by decide) (fun _ _ _ _ _ => pts_yes) (fun _ _ _ _ _ => (pd_call takesN0 H_product_of_two.F (hr.mono (by decide)) (by rfl) H_product_of_two.m H_product_of_two.kp H_product_of_two.b (pad_cons (pd_var 2) (pad_cons (pd_var 3) pad_nil)))))) pad_nil))))))
abbrev s_least_of : Stmt := topS 24
abbrev N_least_of : List Str := ["row", "found", "part"]
theorem sc_least_of : FnScope N_least_of ["row"] (defScope s_least_of) := ⟨rfl, rfl, rfl, by decide +kernel, rfl, by decide +kernel, by decide +kernel⟩
def w_least_of (C : Addr) : WS := (wSeq (wExp (wCall 2 (c_need C) (aCons (vAnd (wCall 1 c_is_row (aCons (wVar 0) aNil)) (wOp fGt (wCB fLen (aCons (wVar 0) aNil)) (wC (.int 0)))) (aCons (wC (.str "row")) aNil))))
  (wSeq (wAsg 1 (wOp fIx (wVar 0) (wC (.int 0))))
  (wSeq (wFor (wSeqI (wVar 0)) [2] bName
  (wIfS (wTst (wCall 2 c_lies_below (aCons (wVar 2) (aCons (wVar 1) aNil))))
  (wAsg 1 (wVar 2))
  wNext))
  (wRet (wVar 1)))))
theorem d_least_of {a_least_of : Addr} (T : Tx K mg C fI fdI) {a_is_row : Addr} {fd_is_row : FuncData} {a_lies_below : Addr} {fd_lies_below : FuncData} {a_need : Addr} {fd_need : FuncData} (H_need : Cl P w K mg base 3 "need" s_need ["holds", "word"] 2 (c_need C) a_need fd_need) (H_lies_below : Cl P w K mg base 1 "lies_below" s_lies_below ["one", "other"] 2 c_lies_below a_lies_below fd_lies_below) (H_is_row : Cl P w K mg base 3 "is_row" s_is_row ["thing"] 1 c_is_row a_is_row fd_is_row) : ∀ (cdv : Value) (A : Around) (outer : List Env) (s : Shared) (H : Hp) (E : XK), Room 3 (cxOf (L2N.CX P w) P w K mg base N_least_of "least_of" (defScope s_least_of) a_least_of cdv A outer s H E).A → L2N.Takes (cxOf (L2N.CX P w) P w K mg base N_least_of "least_of" (defScope s_least_of) a_least_of cdv A outer s H E) (fun cls d _ H => E cls d H) →
    PSsd (cxOf (L2N.CX P w) P w K mg base N_least_of "least_of" (defScope s_least_of) a_least_of cdv A outer s H E) (fun cls d _ H => E cls d H) (defBody s_least_of) (w_least_of C) := fun cdv A outer s H E hr tk =>
  (psd_cons (psd_expr (pd_call tk H_need.F (hr.mono (by decide)) (by rfl) H_need.m H_need.kp H_need.b (pad_cons (pd_and (pd_call tk H_is_row.F (hr.mono (by decide)) (by rfl) H_is_row.m H_is_row.kp H_is_row.b (pad_cons (pd_var 0) pad_nil)) (pd_one (pd_cmp op_gt opd_gt (pd_cb cad_len call_len (by rfl) T.b_len PySem.boot_len (pad_cons (pd_var 0) pad_nil)) pd_int (nomark _)))) (pad_cons pd_str pad_nil))))
  (psd_cons (psd_set sc_least_of.nd rfl (by first | exact Or.inl rfl | exact Or.inr rfl) (pd_ix ix_seq opd_ix (pd_var 0) pd_int (fun _ _ => rfl)))
  (psd_cons (psd_for .leaving rfl (pid_seq (pd_var 0)) (pg_name (i := 2) sc_least_of.nd rfl (by first | exact Or.inl rfl | exact Or.inr rfl)) bnd_name
  (psd_one (psd_if (ptd_val (pd_call tk H_lies_below.F (hr.mono (by decide)) (by rfl) H_lies_below.m H_lies_below.kp H_lies_below.b (pad_cons (pd_var 2) (pad_cons (pd_var 1) pad_nil))))
  (psd_one (psd_set sc_least_of.nd rfl (by first | exact Or.inl rfl | exact Or.inr rfl) (pd_var 2)))
  psd_nil)))
  (psd_one (psd_ret (pd_var 1))))))
abbrev s_greatest_of : Stmt := topS 25
abbrev N_greatest_of : List Str := ["row", "found", "part"]
theorem sc_greatest_of : FnScope N_greatest_of ["row"] (defScope s_greatest_of) := ⟨rfl, rfl, rfl, by decide +kernel, rfl, by decide +kernel, by decide +kernel⟩
def w_greatest_of (C : Addr) : WS := (wSeq (wExp (wCall 2 (c_need C) (aCons (vAnd (wCall 1 c_is_row (aCons (wVar 0) aNil)) (wOp fGt (wCB fLen (aCons (wVar 0) aNil)) (wC (.int 0)))) (aCons (wC (.str "row")) aNil))))
  (wSeq (wAsg 1 (wOp fIx (wVar 0) (wC (.int 0))))
  (wSeq (wFor (wSeqI (wVar 0)) [2] bName
  (wIfS (wTst (wCall 2 c_lies_below (aCons (wVar 1) (aCons (wVar 2) aNil))))
  (wAsg 1 (wVar 2))
  wNext))
  (wRet (wVar 1)))))
theorem d_greatest_of {a_greatest_of : Addr} (T : Tx K mg C fI fdI) {a_is_row : Addr} {fd_is_row : FuncData} {a_lies_below : Addr} {fd_lies_below : FuncData} {a_need : Addr} {fd_need : FuncData} (H_need : Cl P w K mg base 3 "need" s_need ["holds", "word"] 2 (c_need C) a_need fd_need) (H_lies_below : Cl P w K mg base 1 "lies_below" s_lies_below ["one", "other"] 2 c_lies_below a_lies_below fd_lies_below) (H_is_row : Cl P w K mg base 3 "is_row" s_is_row ["thing"] 1 c_is_row a_is_row fd_is_row) : ∀ (cdv : Value) (A : Around) (outer : List Env) (s : Shared) (H : Hp) (E : XK), Room 3 (cxOf (L2N.CX P w) P w K mg base N_greatest_of "greatest_of" (defScope s_greatest_of) a_greatest_of cdv A outer s H E).A → L2N.Takes (cxOf (L2N.CX P w) P w K mg base N_greatest_of "greatest_of" (defScope s_greatest_of) a_greatest_of cdv A outer s H E) (fun cls d _ H => E cls d H) →
    PSsd (cxOf (L2N.CX P w) P w K mg base N_greatest_of "greatest_of" (defScope s_greatest_of) a_greatest_of cdv A outer s H E) (fun cls d _ H => E cls d H) (defBody s_greatest_of) (w_greatest_of C) := fun cdv A outer s H E hr tk =>
  (psd_cons (psd_expr (pd_call tk H_need.F (hr.mono (by decide)) (by rfl) H_need.m H_need.kp H_need.b (pad_cons (pd_and (pd_call tk H_is_row.F (hr.mono (by decide)) (by rfl) H_is_row.m H_is_row.kp H_is_row.b (pad_cons (pd_var 0) pad_nil)) (pd_one (pd_cmp op_gt opd_gt (pd_cb cad_len call_len (by rfl) T.b_len PySem.boot_len (pad_cons (pd_var 0) pad_nil)) pd_int (nomark _)))) (pad_cons pd_str pad_nil))))
  (psd_cons (psd_set sc_greatest_of.nd rfl (by first | exact Or.inl rfl | exact Or.inr rfl) (pd_ix ix_seq opd_ix (pd_var 0) pd_int (fun _ _ => rfl)))
  (psd_cons (psd_for .leaving rfl (pid_seq (pd_var 0)) (pg_name (i := 2) sc_greatest_of.nd rfl (by first | exact Or.inl rfl | exact Or.inr rfl)) bnd_name
  (psd_one (psd_if (ptd_val (pd_call tk H_lies_below.F (hr.mono (by decide)) (by rfl) H_lies_below.m H_lies_below.kp H_lies_below.b (pad_cons (pd_var 1) (pad_cons (pd_var 2) pad_nil))))
  (psd_one (psd_set sc_greatest_of.nd rfl (by first | exact Or.inl rfl | exact Or.inr rfl) (pd_var 2)))
  psd_nil)))
  (psd_one (psd_ret (pd_var 1))))))
abbrev s_l_mixed : Stmt := topS 27
abbrev N_l_mixed : List Str := ["_law_cell", "_law_tick", "_law_first", "_law_second", "_law_third"]
theorem sc_l_mixed : FnScope N_l_mixed ["_law_cell", "_law_tick"] (defScope s_l_mixed) := ⟨rfl, rfl, rfl, by decide +kernel, rfl, by decide +kernel, by decide +kernel⟩
def w_l_mixed  : WS := (wSeq (wAsg 2 (wOp fMod (wCB fInt1 (aCons (wOp fAdd (wOp fAdd (wOp fMulA (wVar 0) (wC (.int 50051))) (wOp fMulA (wVar 1) (wC (.int 72019)))) (wC (.int 13))) aNil)) (wC (.int 2147480027))))
  (wSeq (wAsg 3 (wOp fMod (wCB fInt1 (aCons (wOp fAdd (wOp fAdd (wOp fMulA (wVar 2) (wVar 2)) (wOp fMulA (wVar 1) (wC (.int 30029)))) (wC (.int 5))) aNil)) (wC (.int 2147470033))))
  (wSeq (wAsg 4 (wOp fMod (wCB fInt1 (aCons (wOp fAdd (wOp fAdd (wOp fDiv (wOp fMulA (wVar 3) (wVar 3)) (wC (.int 4099))) (wOp fMulA (wVar 3) (wC (.int 20023)))) (wVar 1)) aNil)) (wC (.int 2147460041))))
  (wRet (wOp fDiv (wVar 4) (wC (.int 8)))))))
theorem d_l_mixed {a_l_mixed : Addr} (T : Tx K mg C fI fdI) : ∀ (cdv : Value) (A : Around) (outer : List Env) (s : Shared) (H : Hp) (E : XK), Room 0 (cxOf (L2N.CX P w) P w K mg base N_l_mixed "_law_mixed" (defScope s_l_mixed) a_l_mixed cdv A outer s H E).A → L2N.Takes (cxOf (L2N.CX P w) P w K mg base N_l_mixed "_law_mixed" (defScope s_l_mixed) a_l_mixed cdv A outer s H E) (fun cls d _ H => E cls d H) →
    PSsd (cxOf (L2N.CX P w) P w K mg base N_l_mixed "_law_mixed" (defScope s_l_mixed) a_l_mixed cdv A outer s H E) (fun cls d _ H => E cls d H) (defBody s_l_mixed) w_l_mixed := fun cdv A outer s H E hr tk =>
  (psd_cons (psd_set sc_l_mixed.nd rfl (by first | exact Or.inl rfl | exact Or.inr rfl) (pd_op op_mod opd_mod (pd_cty cad_int1 call_int1 (by rfl) T.b_int (by decide +kernel) (pad_cons (pd_op op_addA opd_add (pd_op op_addA opd_add (pd_op op_mulA opd_mulA (pd_var 0) pd_int) (pd_op op_mulA opd_mulA (pd_var 1) pd_int)) pd_int) pad_nil)) pd_int))
  (psd_cons (psd_set sc_l_mixed.nd rfl (by first | exact Or.inl rfl | exact Or.inr rfl) (pd_op op_mod opd_mod (pd_cty cad_int1 call_int1 (by rfl) T.b_int (by decide +kernel) (pad_cons (pd_op op_addA opd_add (pd_op op_addA opd_add (pd_op op_mulA opd_mulA (pd_var 2) (pd_var 2)) (pd_op op_mulA opd_mulA (pd_var 1) pd_int)) pd_int) pad_nil)) pd_int))
  (psd_cons (psd_set sc_l_mixed.nd rfl (by first | exact Or.inl rfl | exact Or.inr rfl) (pd_op op_mod opd_mod (pd_cty cad_int1 call_int1 (by rfl) T.b_int (by decide +kernel) (pad_cons (pd_op op_addA opd_add (pd_op op_addA opd_add (pd_op op_fdivX opd_div (pd_op op_mulA opd_mulA (pd_var 3) (pd_var 3)) pd_int) (pd_op op_mulA opd_mulA (pd_var 3) pd_int)) (pd_var 1)) pad_nil)) pd_int))
  (psd_one (psd_ret (pd_op op_fdivX opd_div (pd_var 4) pd_int))))))
/-! _law_pool: by hand -/
abbrev s_l_pool : Stmt := topS 28
abbrev N_l_pool : List Str := ["_law_script", "_law_seed", "_law_cell"]
theorem sc_l_pool : FnScope N_l_pool ["_law_script"] (defScope s_l_pool) := ⟨rfl, rfl, rfl, by decide +kernel, rfl, by decide +kernel, by decide +kernel⟩
/-! _law_take: by hand -/
abbrev s_l_take : Stmt := topS 29
abbrev N_l_take : List Str := ["_law_pool_here", "_law_size", "_law_cell", "_law_digit"]
theorem sc_l_take : FnScope N_l_take ["_law_pool_here", "_law_size"] (defScope s_l_take) := ⟨rfl, rfl, rfl, by decide +kernel, rfl, by decide +kernel, by decide +kernel⟩
abbrev s_l_whole : Stmt := topS 30
abbrev N_l_whole : List Str := ["_law_value"]
theorem sc_l_whole : FnScope N_l_whole ["_law_value"] (defScope s_l_whole) := ⟨rfl, rfl, rfl, by decide +kernel, rfl, by decide +kernel, by decide +kernel⟩
def w_l_whole  : WS := (wRet (vAnd (wIsi isInt (wVar 0)) (vNot (wIsi isBool (wVar 0)))))
theorem hd_l_whole {a_l_whole : Addr} (T : Tx K mg C fI fdI) : ∀ (cdv : Value) (A : Around) (outer : List Env) (s : Shared) (H : Hp) (E : XK) (p : Addr × Obj), L2H.RoomH 0 (L2H.cxH (L2N.CX P w) P w K mg base N_l_whole "_law_whole" (defScope s_l_whole) a_l_whole cdv A outer s H E p).A → L2N.Takes (L2H.cxH (L2N.CX P w) P w K mg base N_l_whole "_law_whole" (defScope s_l_whole) a_l_whole cdv A outer s H E p) (fun cls d _ H => E cls d H) →
    PSsd (L2H.cxH (L2N.CX P w) P w K mg base N_l_whole "_law_whole" (defScope s_l_whole) a_l_whole cdv A outer s H E p) (fun cls d _ H => E cls d H) (defBody s_l_whole) w_l_whole := fun cdv A outer s H E p hr tk =>
  (psd_one (psd_ret (pd_and (pd_isi kit_int (by rfl) T.b_isinstance (pd_var 0) (pe_bltn (by rfl) T.b_int (by decide +kernel) rfl)) (pd_one (pd_not (pd_isi kit_bool (by rfl) T.b_isinstance (pd_var 0) (pe_bltn (by rfl) T.b_bool (by decide +kernel) rfl)))))))
theorem d_l_whole {a_l_whole : Addr} (T : Tx K mg C fI fdI) : ∀ (cdv : Value) (A : Around) (outer : List Env) (s : Shared) (H : Hp) (E : XK), Room 0 (cxOf (L2N.CX P w) P w K mg base N_l_whole "_law_whole" (defScope s_l_whole) a_l_whole cdv A outer s H E).A → L2N.Takes (cxOf (L2N.CX P w) P w K mg base N_l_whole "_law_whole" (defScope s_l_whole) a_l_whole cdv A outer s H E) (fun cls d _ H => E cls d H) →
    PSsd (cxOf (L2N.CX P w) P w K mg base N_l_whole "_law_whole" (defScope s_l_whole) a_l_whole cdv A outer s H E) (fun cls d _ H => E cls d H) (defBody s_l_whole) w_l_whole := fun cdv A outer s H E hr tk =>
  (psd_one (psd_ret (pd_and (pd_isi kit_int (by rfl) T.b_isinstance (pd_var 0) (pe_bltn (by rfl) T.b_int (by decide +kernel) rfl)) (pd_one (pd_not (pd_isi kit_bool (by rfl) T.b_isinstance (pd_var 0) (pe_bltn (by rfl) T.b_bool (by decide +kernel) rfl)))))))
abbrev s_l_common : Stmt := topS 31
abbrev N_l_common : List Str := ["_law_high", "_law_low_here"]
theorem sc_l_common : FnScope N_l_common ["_law_high", "_law_low_here"] (defScope s_l_common) := ⟨rfl, rfl, rfl, by decide +kernel, rfl, by decide +kernel, by decide +kernel⟩
def w_l_common  : WS := (wSeq (wWhile (wTst (wOp fNe (wVar 1) (wC (.int 0))))
  (wPar 0 1 (aCons (wVar 1) (aCons (wOp fMod (wCB fInt1 (aCons (wVar 0) aNil)) (wVar 1)) aNil))))
  (wRet (wVar 0)))
theorem d_l_common {a_l_common : Addr} (T : Tx K mg C fI fdI) : ∀ (cdv : Value) (A : Around) (outer : List Env) (s : Shared) (H : Hp) (E : XK), Room 0 (cxOf (L2N.CX P w) P w K mg base N_l_common "_law_common" (defScope s_l_common) a_l_common cdv A outer s H E).A → L2N.Takes (cxOf (L2N.CX P w) P w K mg base N_l_common "_law_common" (defScope s_l_common) a_l_common cdv A outer s H E) (fun cls d _ H => E cls d H) →
    PSsd (cxOf (L2N.CX P w) P w K mg base N_l_common "_law_common" (defScope s_l_common) a_l_common cdv A outer s H E) (fun cls d _ H => E cls d H) (defBody s_l_common) w_l_common := fun cdv A outer s H E hr tk =>
  (psd_cons (psd_while .leaving (ptd_cmp (op_neD hr.units) opd_ne (pd_var 1) pd_int (nomark _))
  (psd_one (psd_par (ps_par (i := 0) (j := 1) rfl sc_l_common.nd rfl rfl (by decide) rfl rfl (pad_cons (pd_var 1) (pad_cons (pd_op op_mod opd_mod (pd_cty cad_int1 call_int1 (by rfl) T.b_int (by decide +kernel) (pad_cons (pd_var 0) pad_nil)) (pd_var 1)) pad_nil)) (by rfl)))))
  (psd_one (psd_ret (pd_var 0))))
abbrev s_l_low : Stmt := topS 32
abbrev N_l_low : List Str := ["_law_top", "_law_bottom", "_law_common_here"]
theorem sc_l_low : FnScope N_l_low ["_law_top", "_law_bottom"] (defScope s_l_low) := ⟨rfl, rfl, rfl, by decide +kernel, rfl, by decide +kernel, by decide +kernel⟩
def w_l_low  : WS := (wSeq (wAsg 2 (wCall 2 c_l_common (aCons (wCB fAbs (aCons (wVar 0) aNil)) (aCons (wVar 1) aNil))))
  (wRet (wTup (aCons (wOp fDiv (wVar 0) (wVar 2)) (aCons (wOp fDiv (wVar 1) (wVar 2)) aNil)))))
theorem d_l_low {a_l_low : Addr} (T : Tx K mg C fI fdI) {a_l_common : Addr} {fd_l_common : FuncData} (H_l_common : Cl P w K mg base 1 "_law_common" s_l_common ["_law_high", "_law_low_here"] 2 c_l_common a_l_common fd_l_common) : ∀ (cdv : Value) (A : Around) (outer : List Env) (s : Shared) (H : Hp) (E : XK), Room 1 (cxOf (L2N.CX P w) P w K mg base N_l_low "_law_low" (defScope s_l_low) a_l_low cdv A outer s H E).A → L2N.Takes (cxOf (L2N.CX P w) P w K mg base N_l_low "_law_low" (defScope s_l_low) a_l_low cdv A outer s H E) (fun cls d _ H => E cls d H) →
    PSsd (cxOf (L2N.CX P w) P w K mg base N_l_low "_law_low" (defScope s_l_low) a_l_low cdv A outer s H E) (fun cls d _ H => E cls d H) (defBody s_l_low) w_l_low := fun cdv A outer s H E hr tk =>
  (psd_cons (psd_set sc_l_low.nd rfl (by first | exact Or.inl rfl | exact Or.inr rfl) (pd_call tk H_l_common.F (hr.mono (by decide)) (by rfl) H_l_common.m H_l_common.kp H_l_common.b (pad_cons (pd_cb cad_abs call_abs (by rfl) T.b_abs (by decide +kernel) (pad_cons (pd_var 0) pad_nil)) (pad_cons (pd_var 1) pad_nil))))
  (psd_one (psd_ret (pd_tup (pad_cons (pd_op op_fdivX opd_div (pd_var 0) (pd_var 2)) (pad_cons (pd_op op_fdivX opd_div (pd_var 1) (pd_var 2)) pad_nil))))))
abbrev s_l_quotient : Stmt := topS 33
abbrev N_l_quotient : List Str := ["_law_value"]
theorem sc_l_quotient : FnScope N_l_quotient ["_law_value"] (defScope s_l_quotient) := ⟨rfl, rfl, rfl, by decide +kernel, rfl, by decide +kernel, by decide +kernel⟩
def w_l_quotient  : WS := (wSeq (wIfS (wOr (wNot (wTst (wIsi isTup (wVar 0)))) (wTst (wOp fNe (wCB fLen (aCons (wVar 0) aNil)) (wC (.int 2)))))
  (wRet (wC (.bool false)))
  wNext)
  (wSeq (wIfS (wOr (wNot (wTst (wCall 1 c_l_whole (aCons (wOp fIx (wVar 0) (wC (.int 0))) aNil)))) (wOr (wNot (wTst (wCall 1 c_l_whole (aCons (wOp fIx (wVar 0) (wC (.int 1))) aNil)))) (wTst (wOp fLt (wOp fIx (wVar 0) (wC (.int 1))) (wC (.int 1))))))
  (wRet (wC (.bool false)))
  wNext)
  (wRet (wOp fEq (wCall 2 c_l_common (aCons (wCB fAbs (aCons (wOp fIx (wVar 0) (wC (.int 0))) aNil)) (aCons (wOp fIx (wVar 0) (wC (.int 1))) aNil))) (wC (.int 1))))))
theorem d_l_quotient {a_l_quotient : Addr} (T : Tx K mg C fI fdI) {a_l_whole : Addr} {fd_l_whole : FuncData} {a_l_common : Addr} {fd_l_common : FuncData} (H_l_common : Cl P w K mg base 1 "_law_common" s_l_common ["_law_high", "_law_low_here"] 2 c_l_common a_l_common fd_l_common) (H_l_whole : Cl P w K mg base 1 "_law_whole" s_l_whole ["_law_value"] 1 c_l_whole a_l_whole fd_l_whole) : ∀ (cdv : Value) (A : Around) (outer : List Env) (s : Shared) (H : Hp) (E : XK), Room 1 (cxOf (L2N.CX P w) P w K mg base N_l_quotient "_law_quotient" (defScope s_l_quotient) a_l_quotient cdv A outer s H E).A → L2N.Takes (cxOf (L2N.CX P w) P w K mg base N_l_quotient "_law_quotient" (defScope s_l_quotient) a_l_quotient cdv A outer s H E) (fun cls d _ H => E cls d H) →
    PSsd (cxOf (L2N.CX P w) P w K mg base N_l_quotient "_law_quotient" (defScope s_l_quotient) a_l_quotient cdv A outer s H E) (fun cls d _ H => E cls d H) (defBody s_l_quotient) w_l_quotient := fun cdv A outer s H E hr tk =>
  (psd_cons (psd_if (PWd.pt (pwd_or (ptd_not (ptd_val (pd_isi kit_tup (by rfl) T.b_isinstance (pd_var 0) (pe_bltn (by rfl) T.b_tuple (by decide +kernel) rfl)))) (pwd_or1 (ptd_cmp (op_neD hr.units) opd_ne (pd_cb cad_len call_len (by rfl) T.b_len PySem.boot_len (pad_cons (pd_var 0) pad_nil)) pd_int (nomark _)))))
  (psd_one (psd_ret pd_bl))
  psd_nil)
  (psd_cons (psd_if (PWd.pt (pwd_or (ptd_not (ptd_val (pd_call tk H_l_whole.F (hr.mono (by decide)) (by rfl) H_l_whole.m H_l_whole.kp H_l_whole.b (pad_cons (pd_ix ix_seq opd_ix (pd_var 0) pd_int (fun _ _ => rfl)) pad_nil)))) (pwd_or (ptd_not (ptd_val (pd_call tk H_l_whole.F (hr.mono (by decide)) (by rfl) H_l_whole.m H_l_whole.kp H_l_whole.b (pad_cons (pd_ix ix_seq opd_ix (pd_var 0) pd_int (fun _ _ => rfl)) pad_nil)))) (pwd_or1 (ptd_cmp op_lt opd_lt (pd_ix ix_seq opd_ix (pd_var 0) pd_int (fun _ _ => rfl)) pd_int (nomark _))))))
  (psd_one (psd_ret pd_bl))
  psd_nil)
  (psd_one (psd_ret (pd_cmp (op_eqD hr.units) opd_eq (pd_call tk H_l_common.F (hr.mono (by decide)) (by rfl) H_l_common.m H_l_common.kp H_l_common.b (pad_cons (pd_cb cad_abs call_abs (by rfl) T.b_abs (by decide +kernel) (pad_cons (pd_ix ix_seq opd_ix (pd_var 0) pd_int (fun _ _ => rfl)) pad_nil)) (pad_cons (pd_ix ix_seq opd_ix (pd_var 0) pd_int (fun _ _ => rfl)) pad_nil))) pd_int (nomark _))))))
abbrev s_l_stands : Stmt := topS 34
abbrev N_l_stands : List Str := ["_law_told", "_law_top", "_law_bottom"]
theorem sc_l_stands : FnScope N_l_stands ["_law_told", "_law_top", "_law_bottom"] (defScope s_l_stands) := ⟨rfl, rfl, rfl, by decide +kernel, rfl, by decide +kernel, by decide +kernel⟩
def w_l_stands  : WS := (wRet (vAnd (wCall 1 c_l_quotient (aCons (wVar 0) aNil)) (wOp fEq (wOp fMulA (wOp fIx (wVar 0) (wC (.int 0))) (wVar 2)) (wOp fMulA (wOp fIx (wVar 0) (wC (.int 1))) (wVar 1)))))
theorem d_l_stands {a_l_stands : Addr} (T : Tx K mg C fI fdI) {a_l_quotient : Addr} {fd_l_quotient : FuncData} (H_l_quotient : Cl P w K mg base 2 "_law_quotient" s_l_quotient ["_law_value"] 1 c_l_quotient a_l_quotient fd_l_quotient) : ∀ (cdv : Value) (A : Around) (outer : List Env) (s : Shared) (H : Hp) (E : XK), Room 2 (cxOf (L2N.CX P w) P w K mg base N_l_stands "_law_stands" (defScope s_l_stands) a_l_stands cdv A outer s H E).A → L2N.Takes (cxOf (L2N.CX P w) P w K mg base N_l_stands "_law_stands" (defScope s_l_stands) a_l_stands cdv A outer s H E) (fun cls d _ H => E cls d H) →
    PSsd (cxOf (L2N.CX P w) P w K mg base N_l_stands "_law_stands" (defScope s_l_stands) a_l_stands cdv A outer s H E) (fun cls d _ H => E cls d H) (defBody s_l_stands) w_l_stands := fun cdv A outer s H E hr tk =>
  (psd_one (psd_ret (pd_and (pd_call tk H_l_quotient.F (hr.mono (by decide)) (by rfl) H_l_quotient.m H_l_quotient.kp H_l_quotient.b (pad_cons (pd_var 0) pad_nil)) (pd_one (pd_cmp (op_eqD hr.units) opd_eq (pd_op op_mulA opd_mulA (pd_ix ix_seq opd_ix (pd_var 0) pd_int (fun _ _ => rfl)) (pd_var 2)) (pd_op op_mulA opd_mulA (pd_ix ix_seq opd_ix (pd_var 0) pd_int (fun _ _ => rfl)) (pd_var 1)) (nomark _))))))
abbrev s_l_draw : Stmt := topS 35
abbrev N_l_draw : List Str := ["_law_pool_here", "_law_style", "_law_tops", "_law_top", "_law_bottom", "_law_head"]
theorem sc_l_draw : FnScope N_l_draw ["_law_pool_here", "_law_style"] (defScope s_l_draw) := ⟨rfl, rfl, rfl, by decide +kernel, rfl, by decide +kernel, by decide +kernel⟩
def w_l_draw  : WS := (wSeq (wIfS (wTst (wOp fEq (wVar 1) (wC (.int 1))))
  (wSeq (wAsg 2 (wLst (aCons (wOp fPow (wC (.int 10)) (wC (.int 59))) (aCons (wOp fAdd (wOp fPow (wC (.int 10)) (wC (.int 58))) (wC (.int 1))) (aCons (wOp fPow (wC (.int 10)) (wC (.int 30))) (aCons (wC (.int 7)) aNil))))))
  (wSeq (wAsg 3 (wOp fAdd (wOp fIx (wVar 2) (wCall 2 c_l_take (aPool 0 (aCons (wC (.int 4)) aNil)))) (wCall 2 c_l_take (aPool 0 (aCons (wC (.int 9999)) aNil)))))
  (wSeq (wAsg 4 (wOp fAdd (wOp fIx (wLst (aCons (wOp fPow (wC (.int 10)) (wC (.int 59))) (aCons (wOp fAdd (wOp fPow (wC (.int 10)) (wC (.int 57))) (wC (.int 3))) (aCons (wOp fPow (wC (.int 10)) (wC (.int 29))) (aCons (wC (.int 1)) aNil))))) (wCall 2 c_l_take (aPool 0 (aCons (wC (.int 4)) aNil)))) (wCall 2 c_l_take (aPool 0 (aCons (wC (.int 9999)) aNil)))))
  (wRet (wCall 2 c_l_low (aCons (wOp fSub (wVar 3) (wOp fMulA (wOp fMulA (wC (.int 2)) (wVar 3)) (wCall 2 c_l_take (aPool 0 (aCons (wC (.int 2)) aNil))))) (aCons (wVar 4) aNil)))))))
  wNext)
  (wSeq (wIfS (wTst (wOp fEq (wVar 1) (wC (.int 2))))
  (wSeq (wAsg 5 (wOp fMulA (wOp fMulA (wOp fMulA (wOp fMulA (wOp fPow (wC (.int 10)) (wC (.int 60))) (wOp fPow (wC (.int 10)) (wC (.int 60)))) (wOp fPow (wC (.int 10)) (wC (.int 60)))) (wOp fPow (wC (.int 10)) (wC (.int 60)))) (wOp fPow (wC (.int 10)) (wC (.int 59)))))
  (wRet (wCall 2 c_l_low (aCons (wOp fSub (wCall 2 c_l_take (aPool 0 (aCons (wC (.int 9999)) aNil))) (wVar 5)) (aCons (wOp fSub (wOp fMulA (wC (.int 9)) (wVar 5)) (wCall 2 c_l_take (aPool 0 (aCons (wC (.int 9999)) aNil)))) aNil)))))
  wNext)
  (wSeq (wIfS (wTst (wOp fEq (wCall 2 c_l_take (aPool 0 (aCons (wC (.int 3)) aNil))) (wC (.int 2))))
  (wRet (wOp fIx (wLst (aCons (wTup (aCons (wC (.int 1)) (aCons (wC (.int 2)) aNil))) (aCons (wTup (aCons (wC (.int 0)) (aCons (wC (.int 1)) aNil))) (aCons (wTup (aCons (wUn fNeg (wC (.int 1))) (aCons (wC (.int 3)) aNil))) (aCons (wTup (aCons (wC (.int 1)) (aCons (wC (.int 1)) aNil))) (aCons (wTup (aCons (wUn fNeg (wC (.int 1))) (aCons (wC (.int 1)) aNil))) (aCons (wTup (aCons (wC (.int 2)) (aCons (wC (.int 3)) aNil))) (aCons (wTup (aCons (wC (.int 5)) (aCons (wC (.int 1)) aNil))) aNil)))))))) (wCall 2 c_l_take (aPool 0 (aCons (wC (.int 7)) aNil)))))
  wNext)
  (wRet (wCall 2 c_l_low (aCons (wOp fSub (wCall 2 c_l_take (aPool 0 (aCons (wC (.int 31)) aNil))) (wC (.int 15))) (aCons (wOp fAdd (wC (.int 1)) (wCall 2 c_l_take (aPool 0 (aCons (wC (.int 16)) aNil)))) aNil)))))))
theorem d_l_draw {a_l_draw : Addr} (T : Tx K mg C fI fdI) {a_l_take : Addr} {fd_l_take : FuncData} {a_l_low : Addr} {fd_l_low : FuncData} (H_l_low : Cl P w K mg base 2 "_law_low" s_l_low ["_law_top", "_law_bottom"] 2 c_l_low a_l_low fd_l_low) (H_l_take : Cl P w K mg base 2 "_law_take" s_l_take ["_law_pool_here", "_law_size"] 2 c_l_take a_l_take fd_l_take) : ∀ (cdv : Value) (A : Around) (outer : List Env) (s : Shared) (H : Hp) (E : XK), Room 2 (cxOf (L2N.CX P w) P w K mg base N_l_draw "_law_draw" (defScope s_l_draw) a_l_draw cdv A outer s H E).A → L2N.Takes (cxOf (L2N.CX P w) P w K mg base N_l_draw "_law_draw" (defScope s_l_draw) a_l_draw cdv A outer s H E) (fun cls d _ H => E cls d H) →
    PSsd (cxOf (L2N.CX P w) P w K mg base N_l_draw "_law_draw" (defScope s_l_draw) a_l_draw cdv A outer s H E) (fun cls d _ H => E cls d H) (defBody s_l_draw) w_l_draw := fun cdv A outer s H E hr tk =>
  (psd_cons (psd_if (ptd_cmp (op_eqD hr.units) opd_eq (pd_var 1) pd_int (nomark _))
  (psd_cons (psd_set sc_l_draw.nd rfl (by first | exact Or.inl rfl | exact Or.inr rfl) (PF.pd (pf_lst (pad_cons (pd_op op_pow opd_pow pd_int pd_int) (pad_cons (pd_op op_addA opd_add (pd_op op_pow opd_pow pd_int pd_int) pd_int) (pad_cons (pd_op op_pow opd_pow pd_int pd_int) (pad_cons pd_int pad_nil)))))))
  (psd_cons (psd_set sc_l_draw.nd rfl (by first | exact Or.inl rfl | exact Or.inr rfl) (pd_op op_addA opd_add (pd_ix ix_seq opd_ix (pd_var 2) (pd_call tk H_l_take.F (hr.mono (by decide)) (by rfl) H_l_take.m H_l_take.kp H_l_take.b (pad_pool 0 (pad_cons pd_int pad_nil))) (fun _ _ => rfl)) (pd_call tk H_l_take.F (hr.mono (by decide)) (by rfl) H_l_take.m H_l_take.kp H_l_take.b (pad_pool 0 (pad_cons pd_int pad_nil)))))
  (psd_cons (psd_set sc_l_draw.nd rfl (by first | exact Or.inl rfl | exact Or.inr rfl) (pd_op op_addA opd_add (pd_ix ix_seq opd_ix (PF.pd (pf_lst (pad_cons (pd_op op_pow opd_pow pd_int pd_int) (pad_cons (pd_op op_addA opd_add (pd_op op_pow opd_pow pd_int pd_int) pd_int) (pad_cons (pd_op op_pow opd_pow pd_int pd_int) (pad_cons pd_int pad_nil)))))) (pd_call tk H_l_take.F (hr.mono (by decide)) (by rfl) H_l_take.m H_l_take.kp H_l_take.b (pad_pool 0 (pad_cons pd_int pad_nil))) (fun _ _ => rfl)) (pd_call tk H_l_take.F (hr.mono (by decide)) (by rfl) H_l_take.m H_l_take.kp H_l_take.b (pad_pool 0 (pad_cons pd_int pad_nil)))))
  (psd_one (psd_ret (pd_call tk H_l_low.F (hr.mono (by decide)) (by rfl) H_l_low.m H_l_low.kp H_l_low.b (pad_cons (pd_op op_sub opd_sub (pd_var 3) (pd_op op_mulA opd_mulA (pd_op op_mulA opd_mulA pd_int (pd_var 3)) (pd_call tk H_l_take.F (hr.mono (by decide)) (by rfl) H_l_take.m H_l_take.kp H_l_take.b (pad_pool 0 (pad_cons pd_int pad_nil))))) (pad_cons (pd_var 4) pad_nil))))))))
  psd_nil)
  (psd_cons (psd_if (ptd_cmp (op_eqD hr.units) opd_eq (pd_var 1) pd_int (nomark _))
  (psd_cons (psd_set sc_l_draw.nd rfl (by first | exact Or.inl rfl | exact Or.inr rfl) (pd_op op_mulA opd_mulA (pd_op op_mulA opd_mulA (pd_op op_mulA opd_mulA (pd_op op_mulA opd_mulA (pd_op op_pow opd_pow pd_int pd_int) (pd_op op_pow opd_pow pd_int pd_int)) (pd_op op_pow opd_pow pd_int pd_int)) (pd_op op_pow opd_pow pd_int pd_int)) (pd_op op_pow opd_pow pd_int pd_int)))
  (psd_one (psd_ret (pd_call tk H_l_low.F (hr.mono (by decide)) (by rfl) H_l_low.m H_l_low.kp H_l_low.b (pad_cons (pd_op op_sub opd_sub (pd_call tk H_l_take.F (hr.mono (by decide)) (by rfl) H_l_take.m H_l_take.kp H_l_take.b (pad_pool 0 (pad_cons pd_int pad_nil))) (pd_var 5)) (pad_cons (pd_op op_sub opd_sub (pd_op op_mulA opd_mulA pd_int (pd_var 5)) (pd_call tk H_l_take.F (hr.mono (by decide)) (by rfl) H_l_take.m H_l_take.kp H_l_take.b (pad_pool 0 (pad_cons pd_int pad_nil)))) pad_nil))))))
  psd_nil)
  (psd_cons (psd_if (ptd_cmp (op_eqD hr.units) opd_eq (pd_call tk H_l_take.F (hr.mono (by decide)) (by rfl) H_l_take.m H_l_take.kp H_l_take.b (pad_pool 0 (pad_cons pd_int pad_nil))) pd_int (nomark _))
  (psd_one (psd_ret (pd_ix ix_seq opd_ix (PF.pd (pf_lst (pad_cons (pd_tup (pad_cons pd_int (pad_cons pd_int pad_nil))) (pad_cons (pd_tup (pad_cons pd_int (pad_cons pd_int pad_nil))) (pad_cons (pd_tup (pad_cons (pd_un un_neg und_neg pd_int) (pad_cons pd_int pad_nil))) (pad_cons (pd_tup (pad_cons pd_int (pad_cons pd_int pad_nil))) (pad_cons (pd_tup (pad_cons (pd_un un_neg und_neg pd_int) (pad_cons pd_int pad_nil))) (pad_cons (pd_tup (pad_cons pd_int (pad_cons pd_int pad_nil))) (pad_cons (pd_tup (pad_cons pd_int (pad_cons pd_int pad_nil))) pad_nil))))))))) (pd_call tk H_l_take.F (hr.mono (by decide)) (by rfl) H_l_take.m H_l_take.kp H_l_take.b (pad_pool 0 (pad_cons pd_int pad_nil))) (fun _ _ => rfl))))
  psd_nil)
  (psd_one (psd_ret (pd_call tk H_l_low.F (hr.mono (by decide)) (by rfl) H_l_low.m H_l_low.kp H_l_low.b (pad_cons (pd_op op_sub opd_sub (pd_call tk H_l_take.F (hr.mono (by decide)) (by rfl) H_l_take.m H_l_take.kp H_l_take.b (pad_pool 0 (pad_cons pd_int pad_nil))) pd_int) (pad_cons (pd_op op_addA opd_add pd_int (pd_call tk H_l_take.F (hr.mono (by decide)) (by rfl) H_l_take.m H_l_take.kp H_l_take.b (pad_pool 0 (pad_cons pd_int pad_nil)))) pad_nil))))))))
abbrev s_l_rows : Stmt := topS 36
abbrev N_l_rows : List Str := ["_law_pool_here", "_law_pick", "_law_style", "_law_length", "_law_left", "_law_k", "_law_right"]
theorem sc_l_rows : FnScope N_l_rows ["_law_pool_here"] (defScope s_l_rows) := ⟨rfl, rfl, rfl, by decide +kernel, rfl, by decide +kernel, by decide +kernel⟩
def w_l_rows  : WS := (wSeq (wAsg 1 (wCall 2 c_l_take (aPool 0 (aCons (wC (.int 32)) aNil))))
  (wSeq (wAsg 2 (wC (.int 0)))
  (wSeq (wAsg 3 (wCall 2 c_l_take (aPool 0 (aCons (wC (.int 8)) aNil))))
  (wSeq (wIfS (wTst (wOp fGt (wVar 1) (wC (.int 27))))
  (wAsg 3 (wC (.int 40)))
  (wIfS (wTst (wOp fGt (wVar 1) (wC (.int 23))))
  (wSeq (wAsg 2 (wC (.int 1)))
  (wAsg 3 (wOp fAdd (wVar 3) (wC (.int 2)))))
  (wIfS (wTst (wOp fEq (wVar 1) (wC (.int 23))))
  (wSeq (wAsg 2 (wC (.int 2)))
  (wAsg 3 (wC (.int 4))))
  wNext)))
  (wSeq (wAsgC 4 (wLc (wRng1 (wVar 3)) [5] bName wYes (wCall 2 c_l_draw (aPool 0 (aCons (wVar 2) aNil))) [5]))
  (wSeq (wAsg 6 (wLc (wRng1 (wVar 3)) [5] bName wYes (wCall 2 c_l_draw (aPool 0 (aCons (wVar 2) aNil))) [5]))
  (wSeq (wIfS (wAnd (wTst (wOp fGt (wVar 3) (wC (.int 1)))) (wTst (wOp fEq (wCall 2 c_l_take (aPool 0 (aCons (wC (.int 4)) aNil))) (wC (.int 3)))))
  (wSetI 4 (wCall 2 c_l_take (aPool 0 (aCons (wVar 3) aNil))) (wIxC 4 (wCall 2 c_l_take (aPool 0 (aCons (wVar 3) aNil)))))
  wNext)
  (wFz 4 (wRet (wLst (aCons (wVar 4) (aCons (wVar 6) (aCons (wVar 2) aNil)))))))))))))
theorem d_l_rows {a_l_rows : Addr} (T : Tx K mg C fI fdI) {a_l_draw : Addr} {fd_l_draw : FuncData} {a_l_take : Addr} {fd_l_take : FuncData} (H_l_take : Cl P w K mg base 2 "_law_take" s_l_take ["_law_pool_here", "_law_size"] 2 c_l_take a_l_take fd_l_take) (H_l_draw : Cl P w K mg base 3 "_law_draw" s_l_draw ["_law_pool_here", "_law_style"] 2 c_l_draw a_l_draw fd_l_draw) : ∀ (cdv : Value) (A : Around) (outer : List Env) (s : Shared) (H : Hp) (E : XK), Room 3 (cxOf (L2N.CX P w) P w K mg base N_l_rows "_law_rows" (defScope s_l_rows) a_l_rows cdv A outer s H E).A → L2N.Takes (cxOf (L2N.CX P w) P w K mg base N_l_rows "_law_rows" (defScope s_l_rows) a_l_rows cdv A outer s H E) (fun cls d _ H => E cls d H) →
    PSsd (cxOf (L2N.CX P w) P w K mg base N_l_rows "_law_rows" (defScope s_l_rows) a_l_rows cdv A outer s H E) (fun cls d _ H => E cls d H) (defBody s_l_rows) w_l_rows := fun cdv A outer s H E hr tk =>
  (psd_cons (psd_set sc_l_rows.nd rfl (by first | exact Or.inl rfl | exact Or.inr rfl) (pd_call tk H_l_take.F (hr.mono (by decide)) (by rfl) H_l_take.m H_l_take.kp H_l_take.b (pad_pool 0 (pad_cons pd_int pad_nil))))
  (psd_cons (psd_set sc_l_rows.nd rfl (by first | exact Or.inl rfl | exact Or.inr rfl) pd_int)
  (psd_cons (psd_set sc_l_rows.nd rfl (by first | exact Or.inl rfl | exact Or.inr rfl) (pd_call tk H_l_take.F (hr.mono (by decide)) (by rfl) H_l_take.m H_l_take.kp H_l_take.b (pad_pool 0 (pad_cons pd_int pad_nil))))
  (psd_cons (psd_if (ptd_cmp op_gt opd_gt (pd_var 1) pd_int (nomark _))
  (psd_one (psd_set sc_l_rows.nd rfl (by first | exact Or.inl rfl | exact Or.inr rfl) pd_int))
  (psd_one (psd_if (ptd_cmp op_gt opd_gt (pd_var 1) pd_int (nomark _))
  (psd_cons (psd_set sc_l_rows.nd rfl (by first | exact Or.inl rfl | exact Or.inr rfl) pd_int)
  (psd_one (psd_set sc_l_rows.nd rfl (by first | exact Or.inl rfl | exact Or.inr rfl) (pd_op op_addA opd_add (pd_var 3) pd_int))))
  (psd_one (psd_if (ptd_cmp (op_eqD hr.units) opd_eq (pd_var 1) pd_int (nomark _))
  (psd_cons (psd_set sc_l_rows.nd rfl (by first | exact Or.inl rfl | exact Or.inr rfl) pd_int)
  (psd_one (psd_set sc_l_rows.nd rfl (by first | exact Or.inl rfl | exact Or.inr rfl) pd_int)))
  psd_nil)))))
  (psd_cons (psd_lcC (ps_setLc (own := [("_law_k", 5)]) rfl sc_l_rows.nd rfl rfl (sw_true rfl rfl rfl (by decide +kernel)) (pid_rng1 (by rfl) T.b_range (pd_var 3)) (blkOk_by (N := N_l_rows) (sc := defScope s_l_rows) (by decide +kernel)) (fun _ _ _ _ _ => (pg_name (i := 5) sc_l_rows.nd rfl (by first | exact Or.inl rfl | exact Or.inr rfl))) (fun _ _ _ _ _ => pts_yes) (fun _ _ _ _ _ => (pd_call takesN0 H_l_draw.F (hr.mono (by decide)) (by rfl) H_l_draw.m H_l_draw.kp H_l_draw.b (pad_pool 0 (pad_cons (pd_var 2) pad_nil))))) (js := [5]) bnd_name (by decide))
  (psd_cons (psd_lcV (ps_setLc (own := [("_law_k", 5)]) rfl sc_l_rows.nd rfl rfl (sw_true rfl rfl rfl (by decide +kernel)) (pid_rng1 (by rfl) T.b_range (pd_var 3)) (blkOk_by (N := N_l_rows) (sc := defScope s_l_rows) (by decide +kernel)) (fun _ _ _ _ _ => (pg_name (i := 5) sc_l_rows.nd rfl (by first | exact Or.inl rfl | exact Or.inr rfl))) (fun _ _ _ _ _ => pts_yes) (fun _ _ _ _ _ => (pd_call takesN0 H_l_draw.F (hr.mono (by decide)) (by rfl) H_l_draw.m H_l_draw.kp H_l_draw.b (pad_pool 0 (pad_cons (pd_var 2) pad_nil))))) (js := [5]) bnd_name (by decide))
  (psd_cons (psd_if (PWd.pt (pwd_and (ptd_cmp op_gt opd_gt (pd_var 3) pd_int (nomark _)) (pwd_and1 (ptd_cmp (op_eqD hr.units) opd_eq (pd_call tk H_l_take.F (hr.mono (by decide)) (by rfl) H_l_take.m H_l_take.kp H_l_take.b (pad_pool 0 (pad_cons pd_int pad_nil))) pd_int (nomark _)))))
  (psd_one (psd_setI (ps_asg (pd_ixC 4 (pd_call tk H_l_take.F (hr.mono (by decide)) (by rfl) H_l_take.m H_l_take.kp H_l_take.b (pad_pool 0 (pad_cons (pd_var 3) pad_nil))) (fun _ _ => rfl)) (pg_sub (pv 4) (pd_call tk H_l_take.F (hr.mono (by decide)) (by rfl) H_l_take.m H_l_take.kp H_l_take.b (pad_pool 0 (pad_cons (pd_var 3) pad_nil))) set_list))))
  psd_nil)
  (psd_fz 4 (psd_one (psd_ret (PF.pd (pf_lst (pad_cons (pd_var 4) (pad_cons (pd_var 6) (pad_cons (pd_var 2) pad_nil)))))))))))))))
abbrev s_l_bad : Stmt := topS 37
abbrev N_l_bad : List Str := ["_law_pool_here", "_law_odd"]
theorem sc_l_bad : FnScope N_l_bad ["_law_pool_here"] (defScope s_l_bad) := ⟨rfl, rfl, rfl, by decide +kernel, rfl, by decide +kernel, by decide +kernel⟩
def w_l_bad  : WS := (wSeq (wAsg 1 (wLst (aCons (wTup (aCons (wC (.int 2)) (aCons (wC (.int 4)) aNil))) (aCons (wTup (aCons (wC (.bool true)) (aCons (wC (.int 1)) aNil))) (aCons (wTup (aCons (wC (.int 1)) (aCons (wC (.bool true)) aNil))) (aCons (wTup (aCons (wC (.int 0)) (aCons (wC (.int 2)) aNil))) (aCons (wTup (aCons (wC (.int 1)) (aCons (wUn fNeg (wC (.int 2))) aNil))) (aCons (wTup (aCons (wC (.int 1)) (aCons (wC (.int 0)) aNil))) (aCons (wLst (aCons (wC (.int 1)) (aCons (wC (.int 2)) aNil))) (aCons (wTup (aCons (wC (.int 1)) aNil)) (aCons (wTup (aCons (wC (.int 1)) (aCons (wC (.int 2)) (aCons (wC (.int 3)) aNil)))) (aCons (wC (.int 5)) (aCons (wC .none) (aCons (wC (.str "1/2")) (aCons (wTup aNil) (aCons (wTup (aCons (wC (.str "1")) (aCons (wC (.int 2)) aNil))) aNil))))))))))))))))
  (wRet (wOp fIx (wVar 1) (wCall 2 c_l_take (aPool 0 (aCons (wC (.int 14)) aNil))))))
theorem d_l_bad {a_l_bad : Addr} (T : Tx K mg C fI fdI) {a_l_take : Addr} {fd_l_take : FuncData} (H_l_take : Cl P w K mg base 2 "_law_take" s_l_take ["_law_pool_here", "_law_size"] 2 c_l_take a_l_take fd_l_take) : ∀ (cdv : Value) (A : Around) (outer : List Env) (s : Shared) (H : Hp) (E : XK), Room 2 (cxOf (L2N.CX P w) P w K mg base N_l_bad "_law_bad" (defScope s_l_bad) a_l_bad cdv A outer s H E).A → L2N.Takes (cxOf (L2N.CX P w) P w K mg base N_l_bad "_law_bad" (defScope s_l_bad) a_l_bad cdv A outer s H E) (fun cls d _ H => E cls d H) →
    PSsd (cxOf (L2N.CX P w) P w K mg base N_l_bad "_law_bad" (defScope s_l_bad) a_l_bad cdv A outer s H E) (fun cls d _ H => E cls d H) (defBody s_l_bad) w_l_bad := fun cdv A outer s H E hr tk =>
  (psd_cons (psd_set sc_l_bad.nd rfl (by first | exact Or.inl rfl | exact Or.inr rfl) (PF.pd (pf_lst (pad_cons (pd_tup (pad_cons pd_int (pad_cons pd_int pad_nil))) (pad_cons (pd_tup (pad_cons pd_bl (pad_cons pd_int pad_nil))) (pad_cons (pd_tup (pad_cons pd_int (pad_cons pd_bl pad_nil))) (pad_cons (pd_tup (pad_cons pd_int (pad_cons pd_int pad_nil))) (pad_cons (pd_tup (pad_cons pd_int (pad_cons (pd_un un_neg und_neg pd_int) pad_nil))) (pad_cons (pd_tup (pad_cons pd_int (pad_cons pd_int pad_nil))) (pad_cons (PF.pd (pf_lst (pad_cons pd_int (pad_cons pd_int pad_nil)))) (pad_cons (pd_tup (pad_cons pd_int pad_nil)) (pad_cons (pd_tup (pad_cons pd_int (pad_cons pd_int (pad_cons pd_int pad_nil)))) (pad_cons pd_int (pad_cons pd_non (pad_cons pd_str (pad_cons (pd_tup pad_nil) (pad_cons (pd_tup (pad_cons pd_str (pad_cons pd_int pad_nil))) pad_nil)))))))))))))))))
  (psd_one (psd_ret (pd_ix ix_seq opd_ix (pd_var 1) (pd_call tk H_l_take.F (hr.mono (by decide)) (by rfl) H_l_take.m H_l_take.kp H_l_take.b (pad_pool 0 (pad_cons pd_int pad_nil))) (fun _ _ => rfl)))))
abbrev s_l_ask : Stmt := topS 38
abbrev N_l_ask : List Str := ["_law_deed", "_law_left", "_law_right", "_law_named", "e"]
theorem sc_l_ask : FnScope N_l_ask ["_law_deed", "_law_left", "_law_right", "_law_named"] (defScope s_l_ask) := ⟨rfl, rfl, rfl, by decide +kernel, rfl, by decide +kernel, by decide +kernel⟩
def w_l_ask (C : Addr) : WS := (wTry C 4 (wSeq (wIfS (wTst (wOp fEq (wVar 0) (wC (.int 0))))
  (wRet (wTup (aCons (wC (.str "told")) (aCons (wIf (wTst (wVar 3)) (wCallK 1 1 [0] (c_total C) (aCons (wVar 1) aNil)) (wCall 1 (c_total C) (aCons (wVar 1) aNil))) aNil))))
  wNext)
  (wSeq (wIfS (wTst (wOp fEq (wVar 0) (wC (.int 1))))
  (wRet (wTup (aCons (wC (.str "told")) (aCons (wIf (wTst (wVar 3)) (wCallK 2 2 [1, 0] (c_weighed C) (aCons (wVar 2) (aCons (wVar 1) aNil))) (wCall 2 (c_weighed C) (aCons (wVar 1) (aCons (wVar 2) aNil)))) aNil))))
  wNext)
  (wSeq (wIfS (wTst (wOp fEq (wVar 0) (wC (.int 2))))
  (wRet (wTup (aCons (wC (.str "told")) (aCons (wIf (wTst (wVar 3)) (wCallK 1 1 [0] (c_least_of C) (aCons (wVar 1) aNil)) (wCall 1 (c_least_of C) (aCons (wVar 1) aNil))) aNil))))
  wNext)
  (wRet (wTup (aCons (wC (.str "told")) (aCons (wIf (wTst (wVar 3)) (wCallK 1 1 [0] (c_greatest_of C) (aCons (wVar 1) aNil)) (wCall 1 (c_greatest_of C) (aCons (wVar 1) aNil))) aNil)))))))
  (fun a c dd => (wSeq (wIfS (wOr (wTst (wOp fNe (wXf 4 a c dd C "at") (wUn fNeg (wC (.int 1))))) (wOr (wNot (wTst (wCall 1 c_l_whole (aCons (wXf 4 a c dd C "at") aNil)))) (wNot (wTst (wIsi isStr (wXf 4 a c dd C "word"))))))
  (wRet (wTup (aCons (wC (.str "strange")) (aCons (wC (.str "")) aNil))))
  wNext)
  (wRet (wTup (aCons (wC (.str "refused")) (aCons (wXf 4 a c dd C "word") aNil)))))))
theorem d_l_ask {a_l_ask : Addr} (T : Tx K mg C fI fdI) {a_l_whole : Addr} {fd_l_whole : FuncData} {a_least_of : Addr} {fd_least_of : FuncData} {a_weighed : Addr} {fd_weighed : FuncData} {a_total : Addr} {fd_total : FuncData} {a_greatest_of : Addr} {fd_greatest_of : FuncData} (H_greatest_of : Cl P w K mg base 4 "greatest_of" s_greatest_of ["row"] 1 (c_greatest_of C) a_greatest_of fd_greatest_of) (H_total : Cl P w K mg base 4 "total" s_total ["row"] 1 (c_total C) a_total fd_total) (H_weighed : Cl P w K mg base 4 "weighed" s_weighed ["row", "others"] 2 (c_weighed C) a_weighed fd_weighed) (H_least_of : Cl P w K mg base 4 "least_of" s_least_of ["row"] 1 (c_least_of C) a_least_of fd_least_of) (H_l_whole : Cl P w K mg base 1 "_law_whole" s_l_whole ["_law_value"] 1 c_l_whole a_l_whole fd_l_whole) (HH_l_whole : L2H.FnH P w K mg base (L2N.CX P w) 1 a_l_whole fd_l_whole ["_law_value"] (spC K 1 c_l_whole)) : ∀ (cdv : Value) (A : Around) (outer : List Env) (s : Shared) (H : Hp) (E : XK), Room 4 (cxOf (L2N.CX P w) P w K mg base N_l_ask "_law_ask" (defScope s_l_ask) a_l_ask cdv A outer s H E).A → L2N.Takes (cxOf (L2N.CX P w) P w K mg base N_l_ask "_law_ask" (defScope s_l_ask) a_l_ask cdv A outer s H E) (fun cls d _ H => E cls d H) →
    PSsd (cxOf (L2N.CX P w) P w K mg base N_l_ask "_law_ask" (defScope s_l_ask) a_l_ask cdv A outer s H E) (fun cls d _ H => E cls d H) (defBody s_l_ask) (w_l_ask C) := fun cdv A outer s H E hr tk =>
  (psd_one (psd_try (i := 4) rfl rfl sc_l_ask.nd rfl rfl ⟨by rfl, by decide, .inl T.m_C⟩ T.exm
  (fun W2 pn xe tk2 po2 => (psd_cons (psd_if (ptd_cmp (op_eqD hr.units) opd_eq (pd_var 0) pd_int (nomark _))
  (psd_one (psd_ret (pd_tup (pad_cons pd_str (pad_cons (pd_if (ptd_val (pd_var 3)) (pd_callK tk2 H_total.F (hr.mono (by decide)) (by rfl) H_total.m H_total.kp (kw_mk H_total.fn ["row"] [0] (fun _ _ _ _ _ _ ws hl => match ws, hl with | [_], _ => rfl)) (pkd_cons (pd_var 1) pkd_nil)) (pd_call tk2 H_total.F (hr.mono (by decide)) (by rfl) H_total.m H_total.kp H_total.b (pad_cons (pd_var 1) pad_nil))) pad_nil)))))
  psd_nil)
  (psd_cons (psd_if (ptd_cmp (op_eqD hr.units) opd_eq (pd_var 0) pd_int (nomark _))
  (psd_one (psd_ret (pd_tup (pad_cons pd_str (pad_cons (pd_if (ptd_val (pd_var 3)) (pd_callK tk2 H_weighed.F (hr.mono (by decide)) (by rfl) H_weighed.m H_weighed.kp (kw_mk H_weighed.fn ["others", "row"] [1, 0] (fun _ _ _ _ _ _ ws hl => match ws, hl with | [_, _], _ => rfl)) (pkd_cons (pd_var 2) (pkd_cons (pd_var 1) pkd_nil))) (pd_call tk2 H_weighed.F (hr.mono (by decide)) (by rfl) H_weighed.m H_weighed.kp H_weighed.b (pad_cons (pd_var 1) (pad_cons (pd_var 2) pad_nil)))) pad_nil)))))
  psd_nil)
  (psd_cons (psd_if (ptd_cmp (op_eqD hr.units) opd_eq (pd_var 0) pd_int (nomark _))
  (psd_one (psd_ret (pd_tup (pad_cons pd_str (pad_cons (pd_if (ptd_val (pd_var 3)) (pd_callK tk2 H_least_of.F (hr.mono (by decide)) (by rfl) H_least_of.m H_least_of.kp (kw_mk H_least_of.fn ["row"] [0] (fun _ _ _ _ _ _ ws hl => match ws, hl with | [_], _ => rfl)) (pkd_cons (pd_var 1) pkd_nil)) (pd_call tk2 H_least_of.F (hr.mono (by decide)) (by rfl) H_least_of.m H_least_of.kp H_least_of.b (pad_cons (pd_var 1) pad_nil))) pad_nil)))))
  psd_nil)
  (psd_one (psd_ret (pd_tup (pad_cons pd_str (pad_cons (pd_if (ptd_val (pd_var 3)) (pd_callK tk2 H_greatest_of.F (hr.mono (by decide)) (by rfl) H_greatest_of.m H_greatest_of.kp (kw_mk H_greatest_of.fn ["row"] [0] (fun _ _ _ _ _ _ ws hl => match ws, hl with | [_], _ => rfl)) (pkd_cons (pd_var 1) pkd_nil)) (pd_call tk2 H_greatest_of.F (hr.mono (by decide)) (by rfl) H_greatest_of.m H_greatest_of.kp H_greatest_of.b (pad_cons (pd_var 1) pad_nil))) pad_nil)))))))))
  (fun a oe c dd pn hz hf => (psd_cons (psd_if (PWd.pt (pwd_or (ptd_cmp (op_neD hr.units) opd_ne (pd_xf 4 T.xf T.no_at hz hf (pv 4)) (pd_un un_neg und_neg pd_int) (nomark _)) (pwd_or (ptd_not (ptd_val (pd_callH (hot_suite hz hf) HH_l_whole (roomH_suite (hr.mono (by decide))) takesN0 (by rfl) H_l_whole.m H_l_whole.kp H_l_whole.b (pad_cons (pd_xf 4 T.xf T.no_at hz hf (pv 4)) pad_nil)))) (pwd_or1 (ptd_not (ptd_val (pd_isi kit_str (by rfl) T.b_isinstance (pd_xf 4 T.xf T.no_word hz hf (pv 4)) (pe_bltn (by rfl) T.b_str (by decide +kernel) rfl))))))))
  (psd_one (psd_ret (pd_tup (pad_cons pd_str (pad_cons pd_str pad_nil)))))
  psd_nil)
  (psd_one (psd_ret (pd_tup (pad_cons pd_str (pad_cons (pd_xf 4 T.xf T.no_word hz hf (pv 4)) pad_nil)))))))))
abbrev s_l_sum : Stmt := topS 39
abbrev N_l_sum : List Str := ["_law_left", "_law_right", "_law_told", "_law_top", "_law_bottom", "_law_k", "_law_part_top", "_law_part_bottom"]
theorem sc_l_sum : FnScope N_l_sum ["_law_left", "_law_right", "_law_told"] (defScope s_l_sum) := ⟨rfl, rfl, rfl, by decide +kernel, rfl, by decide +kernel, by decide +kernel⟩
def w_l_sum  : WS := (wSeq (wAsg 3 (wC (.int 0)))
  (wSeq (wAsg 4 (wC (.int 1)))
  (wSeq (wFor (wRng1 (wCB fLen (aCons (wVar 0) aNil))) [5] bName
  (wSeq (wAsg 6 (wOp fMulA (wOp fIx (wOp fIx (wVar 0) (wVar 5)) (wC (.int 0))) (wOp fIx (wOp fIx (wVar 1) (wVar 5)) (wC (.int 0)))))
  (wSeq (wAsg 7 (wOp fMulA (wOp fIx (wOp fIx (wVar 0) (wVar 5)) (wC (.int 1))) (wOp fIx (wOp fIx (wVar 1) (wVar 5)) (wC (.int 1)))))
  (wSeq (wAsg 3 (wOp fAdd (wOp fMulA (wVar 3) (wVar 7)) (wOp fMulA (wVar 6) (wVar 4))))
  (wAsg 4 (wOp fMulA (wVar 4) (wVar 7)))))))
  (wRet (vAnd (wOp fEq (wOp fIx (wVar 2) (wC (.int 0))) (wC (.str "told"))) (wCall 3 c_l_stands (aCons (wOp fIx (wVar 2) (wC (.int 1))) (aCons (wVar 3) (aCons (wVar 4) aNil)))))))))
theorem d_l_sum {a_l_sum : Addr} (T : Tx K mg C fI fdI) {a_l_stands : Addr} {fd_l_stands : FuncData} (H_l_stands : Cl P w K mg base 3 "_law_stands" s_l_stands ["_law_told", "_law_top", "_law_bottom"] 3 c_l_stands a_l_stands fd_l_stands) : ∀ (cdv : Value) (A : Around) (outer : List Env) (s : Shared) (H : Hp) (E : XK), Room 3 (cxOf (L2N.CX P w) P w K mg base N_l_sum "_law_sum" (defScope s_l_sum) a_l_sum cdv A outer s H E).A → L2N.Takes (cxOf (L2N.CX P w) P w K mg base N_l_sum "_law_sum" (defScope s_l_sum) a_l_sum cdv A outer s H E) (fun cls d _ H => E cls d H) →
    PSsd (cxOf (L2N.CX P w) P w K mg base N_l_sum "_law_sum" (defScope s_l_sum) a_l_sum cdv A outer s H E) (fun cls d _ H => E cls d H) (defBody s_l_sum) w_l_sum := fun cdv A outer s H E hr tk =>
  (psd_cons (psd_set sc_l_sum.nd rfl (by first | exact Or.inl rfl | exact Or.inr rfl) pd_int)
  (psd_cons (psd_set sc_l_sum.nd rfl (by first | exact Or.inl rfl | exact Or.inr rfl) pd_int)
  (psd_cons (psd_for .leaving rfl (pid_rng1 (by rfl) T.b_range (pd_cb cad_len call_len (by rfl) T.b_len PySem.boot_len (pad_cons (pd_var 0) pad_nil))) (pg_name (i := 5) sc_l_sum.nd rfl (by first | exact Or.inl rfl | exact Or.inr rfl)) bnd_name
  (psd_cons (psd_set sc_l_sum.nd rfl (by first | exact Or.inl rfl | exact Or.inr rfl) (pd_op op_mulA opd_mulA (pd_ix ix_seq opd_ix (pd_ix ix_seq opd_ix (pd_var 0) (pd_var 5) (fun _ _ => rfl)) pd_int (fun _ _ => rfl)) (pd_ix ix_seq opd_ix (pd_ix ix_seq opd_ix (pd_var 1) (pd_var 5) (fun _ _ => rfl)) pd_int (fun _ _ => rfl))))
  (psd_cons (psd_set sc_l_sum.nd rfl (by first | exact Or.inl rfl | exact Or.inr rfl) (pd_op op_mulA opd_mulA (pd_ix ix_seq opd_ix (pd_ix ix_seq opd_ix (pd_var 0) (pd_var 5) (fun _ _ => rfl)) pd_int (fun _ _ => rfl)) (pd_ix ix_seq opd_ix (pd_ix ix_seq opd_ix (pd_var 1) (pd_var 5) (fun _ _ => rfl)) pd_int (fun _ _ => rfl))))
  (psd_cons (psd_set sc_l_sum.nd rfl (by first | exact Or.inl rfl | exact Or.inr rfl) (pd_op op_addA opd_add (pd_op op_mulA opd_mulA (pd_var 3) (pd_var 7)) (pd_op op_mulA opd_mulA (pd_var 6) (pd_var 4))))
  (psd_one (psd_set sc_l_sum.nd rfl (by first | exact Or.inl rfl | exact Or.inr rfl) (pd_op op_mulA opd_mulA (pd_var 4) (pd_var 7))))))))
  (psd_one (psd_ret (pd_and (pd_cmp (op_eqD hr.units) opd_eq (pd_ix ix_seq opd_ix (pd_var 2) pd_int (fun _ _ => rfl)) pd_str (nomark _)) (pd_one (pd_call tk H_l_stands.F (hr.mono (by decide)) (by rfl) H_l_stands.m H_l_stands.kp H_l_stands.b (pad_cons (pd_ix ix_seq opd_ix (pd_var 2) pd_int (fun _ _ => rfl)) (pad_cons (pd_var 3) (pad_cons (pd_var 4) pad_nil)))))))))))
abbrev s_l_end : Stmt := topS 40
abbrev N_l_end : List Str := ["_law_row_held", "_law_told", "_law_sign", "_law_found", "_law_part"]
theorem sc_l_end : FnScope N_l_end ["_law_row_held", "_law_told", "_law_sign"] (defScope s_l_end) := ⟨rfl, rfl, rfl, by decide +kernel, rfl, by decide +kernel, by decide +kernel⟩
def w_l_end  : WS := (wSeq (wIfS (wOr (wTst (wOp fNe (wOp fIx (wVar 1) (wC (.int 0))) (wC (.str "told")))) (wNot (wTst (wCall 1 c_l_quotient (aCons (wOp fIx (wVar 1) (wC (.int 1))) aNil)))))
  (wRet (wC (.bool false)))
  wNext)
  (wSeq (wAsg 3 (wC (.bool false)))
  (wSeq (wFor (wSeqI (wVar 0)) [4] bName
  (wSeq (wAsg 3 (vOr (wVar 3) (wOp fEq (wVar 4) (wOp fIx (wVar 1) (wC (.int 1))))))
  (wIfS (wTst (wOp fLt (wOp fMulA (wVar 2) (wOp fSub (wOp fMulA (wOp fIx (wVar 4) (wC (.int 0))) (wOp fIx (wOp fIx (wVar 1) (wC (.int 1))) (wC (.int 1)))) (wOp fMulA (wOp fIx (wOp fIx (wVar 1) (wC (.int 1))) (wC (.int 0))) (wOp fIx (wVar 4) (wC (.int 1)))))) (wC (.int 0))))
  (wRet (wC (.bool false)))
  wNext)))
  (wRet (wVar 3)))))
theorem d_l_end {a_l_end : Addr} (T : Tx K mg C fI fdI) {a_l_quotient : Addr} {fd_l_quotient : FuncData} (H_l_quotient : Cl P w K mg base 2 "_law_quotient" s_l_quotient ["_law_value"] 1 c_l_quotient a_l_quotient fd_l_quotient) : ∀ (cdv : Value) (A : Around) (outer : List Env) (s : Shared) (H : Hp) (E : XK), Room 2 (cxOf (L2N.CX P w) P w K mg base N_l_end "_law_end" (defScope s_l_end) a_l_end cdv A outer s H E).A → L2N.Takes (cxOf (L2N.CX P w) P w K mg base N_l_end "_law_end" (defScope s_l_end) a_l_end cdv A outer s H E) (fun cls d _ H => E cls d H) →
    PSsd (cxOf (L2N.CX P w) P w K mg base N_l_end "_law_end" (defScope s_l_end) a_l_end cdv A outer s H E) (fun cls d _ H => E cls d H) (defBody s_l_end) w_l_end := fun cdv A outer s H E hr tk =>
  (psd_cons (psd_if (PWd.pt (pwd_or (ptd_cmp (op_neD hr.units) opd_ne (pd_ix ix_seq opd_ix (pd_var 1) pd_int (fun _ _ => rfl)) pd_str (nomark _)) (pwd_or1 (ptd_not (ptd_val (pd_call tk H_l_quotient.F (hr.mono (by decide)) (by rfl) H_l_quotient.m H_l_quotient.kp H_l_quotient.b (pad_cons (pd_ix ix_seq opd_ix (pd_var 1) pd_int (fun _ _ => rfl)) pad_nil)))))))
  (psd_one (psd_ret pd_bl))
  psd_nil)
  (psd_cons (psd_set sc_l_end.nd rfl (by first | exact Or.inl rfl | exact Or.inr rfl) pd_bl)
  (psd_cons (psd_for .leaving rfl (pid_seq (pd_var 0)) (pg_name (i := 4) sc_l_end.nd rfl (by first | exact Or.inl rfl | exact Or.inr rfl)) bnd_name
  (psd_cons (psd_set sc_l_end.nd rfl (by first | exact Or.inl rfl | exact Or.inr rfl) (pd_or (pd_var 3) (pd_one (pd_cmp (op_eqD hr.units) opd_eq (pd_var 4) (pd_ix ix_seq opd_ix (pd_var 1) pd_int (fun _ _ => rfl)) (nomark _)))))
  (psd_one (psd_if (ptd_cmp op_lt opd_lt (pd_op op_mulA opd_mulA (pd_var 2) (pd_op op_sub opd_sub (pd_op op_mulA opd_mulA (pd_ix ix_seq opd_ix (pd_var 4) pd_int (fun _ _ => rfl)) (pd_ix ix_seq opd_ix (pd_ix ix_seq opd_ix (pd_var 1) pd_int (fun _ _ => rfl)) pd_int (fun _ _ => rfl))) (pd_op op_mulA opd_mulA (pd_ix ix_seq opd_ix (pd_ix ix_seq opd_ix (pd_var 1) pd_int (fun _ _ => rfl)) pd_int (fun _ _ => rfl)) (pd_ix ix_seq opd_ix (pd_var 4) pd_int (fun _ _ => rfl))))) pd_int (nomark _))
  (psd_one (psd_ret pd_bl))
  psd_nil))))
  (psd_one (psd_ret (pd_var 3))))))
abbrev s_l_folded : Stmt := topS 41
abbrev N_l_folded : List Str := ["_law_left", "_law_right", "_law_due_total", "_law_due_weighed", "_law_held", "_law_heavy", "_law_k"]
theorem sc_l_folded : FnScope N_l_folded ["_law_left", "_law_right", "_law_due_total", "_law_due_weighed"] (defScope s_l_folded) := ⟨rfl, rfl, rfl, by decide +kernel, rfl, by decide +kernel, by decide +kernel⟩
def w_l_folded (C : Addr) : WS := (wSeq (wAsg 4 (wTup (aCons (wC (.int 0)) (aCons (wC (.int 1)) aNil))))
  (wSeq (wAsg 5 (wTup (aCons (wC (.int 0)) (aCons (wC (.int 1)) aNil))))
  (wSeq (wFor (wRng1 (wCB fLen (aCons (wVar 0) aNil))) [6] bName
  (wSeq (wAsg 4 (wCall 2 (c_plus C) (aCons (wVar 4) (aCons (wOp fIx (wVar 0) (wVar 6)) aNil))))
  (wAsg 5 (wCallK 2 2 [0, 1] (c_plus C) (aCons (wCall 2 (c_times C) (aCons (wOp fIx (wVar 0) (wVar 6)) (aCons (wOp fIx (wVar 1) (wVar 6)) aNil))) (aCons (wVar 5) aNil))))))
  (wRet (vAnd (wOp fEq (wVar 4) (wVar 2)) (wOp fEq (wVar 5) (wVar 3)))))))
theorem d_l_folded {a_l_folded : Addr} (T : Tx K mg C fI fdI) {a_times : Addr} {fd_times : FuncData} {a_plus : Addr} {fd_plus : FuncData} (H_plus : Cl P w K mg base 5 "plus" s_plus ["one", "other"] 2 (c_plus C) a_plus fd_plus) (H_times : Cl P w K mg base 5 "times" s_times ["one", "other"] 2 (c_times C) a_times fd_times) : ∀ (cdv : Value) (A : Around) (outer : List Env) (s : Shared) (H : Hp) (E : XK), Room 5 (cxOf (L2N.CX P w) P w K mg base N_l_folded "_law_folded" (defScope s_l_folded) a_l_folded cdv A outer s H E).A → L2N.Takes (cxOf (L2N.CX P w) P w K mg base N_l_folded "_law_folded" (defScope s_l_folded) a_l_folded cdv A outer s H E) (fun cls d _ H => E cls d H) →
    PSsd (cxOf (L2N.CX P w) P w K mg base N_l_folded "_law_folded" (defScope s_l_folded) a_l_folded cdv A outer s H E) (fun cls d _ H => E cls d H) (defBody s_l_folded) (w_l_folded C) := fun cdv A outer s H E hr tk =>
  (psd_cons (psd_set sc_l_folded.nd rfl (by first | exact Or.inl rfl | exact Or.inr rfl) (pd_tup (pad_cons pd_int (pad_cons pd_int pad_nil))))
  (psd_cons (psd_set sc_l_folded.nd rfl (by first | exact Or.inl rfl | exact Or.inr rfl) (pd_tup (pad_cons pd_int (pad_cons pd_int pad_nil))))
  (psd_cons (psd_for .leaving rfl (pid_rng1 (by rfl) T.b_range (pd_cb cad_len call_len (by rfl) T.b_len PySem.boot_len (pad_cons (pd_var 0) pad_nil))) (pg_name (i := 6) sc_l_folded.nd rfl (by first | exact Or.inl rfl | exact Or.inr rfl)) bnd_name
  (psd_cons (psd_set sc_l_folded.nd rfl (by first | exact Or.inl rfl | exact Or.inr rfl) (pd_call tk H_plus.F (hr.mono (by decide)) (by rfl) H_plus.m H_plus.kp H_plus.b (pad_cons (pd_var 4) (pad_cons (pd_ix ix_seq opd_ix (pd_var 0) (pd_var 6) (fun _ _ => rfl)) pad_nil))))
  (psd_one (psd_set sc_l_folded.nd rfl (by first | exact Or.inl rfl | exact Or.inr rfl) (pd_callK tk H_plus.F (hr.mono (by decide)) (by rfl) H_plus.m H_plus.kp (kw_mk H_plus.fn ["one", "other"] [0, 1] (fun _ _ _ _ _ _ ws hl => match ws, hl with | [_, _], _ => rfl)) (pkd_cons (pd_call tk H_times.F (hr.mono (by decide)) (by rfl) H_times.m H_times.kp H_times.b (pad_cons (pd_ix ix_seq opd_ix (pd_var 0) (pd_var 6) (fun _ _ => rfl)) (pad_cons (pd_ix ix_seq opd_ix (pd_var 1) (pd_var 6) (fun _ _ => rfl)) pad_nil))) (pkd_cons (pd_var 5) pkd_nil)))))))
  (psd_one (psd_ret (pd_and (pd_cmp (op_eqD hr.units) opd_eq (pd_var 4) (pd_var 2) (nomark _)) (pd_one (pd_cmp (op_eqD hr.units) opd_eq (pd_var 5) (pd_var 3) (nomark _)))))))))
abbrev s_l_ordered : Stmt := topS 42
abbrev N_l_ordered : List Str := ["_law_row_held", "_law_pool_here", "_law_begin", "_law_left", "_law_right", "_law_told"]
theorem sc_l_ordered : FnScope N_l_ordered ["_law_row_held", "_law_pool_here"] (defScope s_l_ordered) := ⟨rfl, rfl, rfl, by decide +kernel, rfl, by decide +kernel, by decide +kernel⟩
def w_l_ordered (C : Addr) : WS := (wSeq (wAsg 2 (wCall 2 c_l_take (aPool 1 (aCons (wCB fLen (aCons (wVar 0) aNil)) aNil))))
  (wSeq (wFor (wSeqI (wSl (wVar 0) (oSome (wVar 2)) (oSome (wOp fAdd (wVar 2) (wC (.int 9)))))) [3] bName
  (wFor (wSeqI (wSl (wVar 0) oNone (oSome (wC (.int 9))))) [4] bName
  (wSeq (wAsg 5 (wCall 2 (c_is_less C) (aCons (wVar 3) (aCons (wVar 4) aNil))))
  (wIfS (wOr (wNot (wTst (wIsi isBool (wVar 5)))) (wTst (wOp fNe (wVar 5) (wOp fLt (wOp fMulA (wOp fIx (wVar 3) (wC (.int 0))) (wOp fIx (wVar 4) (wC (.int 1)))) (wOp fMulA (wOp fIx (wVar 4) (wC (.int 0))) (wOp fIx (wVar 3) (wC (.int 1))))))))
  (wRet (wC (.bool false)))
  wNext))))
  (wRet (wC (.bool true)))))
theorem d_l_ordered {a_l_ordered : Addr} (T : Tx K mg C fI fdI) {a_is_less : Addr} {fd_is_less : FuncData} {a_l_take : Addr} {fd_l_take : FuncData} (H_l_take : Cl P w K mg base 2 "_law_take" s_l_take ["_law_pool_here", "_law_size"] 2 c_l_take a_l_take fd_l_take) (H_is_less : Cl P w K mg base 5 "is_less" s_is_less ["one", "other"] 2 (c_is_less C) a_is_less fd_is_less) : ∀ (cdv : Value) (A : Around) (outer : List Env) (s : Shared) (H : Hp) (E : XK), Room 5 (cxOf (L2N.CX P w) P w K mg base N_l_ordered "_law_ordered" (defScope s_l_ordered) a_l_ordered cdv A outer s H E).A → L2N.Takes (cxOf (L2N.CX P w) P w K mg base N_l_ordered "_law_ordered" (defScope s_l_ordered) a_l_ordered cdv A outer s H E) (fun cls d _ H => E cls d H) →
    PSsd (cxOf (L2N.CX P w) P w K mg base N_l_ordered "_law_ordered" (defScope s_l_ordered) a_l_ordered cdv A outer s H E) (fun cls d _ H => E cls d H) (defBody s_l_ordered) (w_l_ordered C) := fun cdv A outer s H E hr tk =>
  (psd_cons (psd_set sc_l_ordered.nd rfl (by first | exact Or.inl rfl | exact Or.inr rfl) (pd_call tk H_l_take.F (hr.mono (by decide)) (by rfl) H_l_take.m H_l_take.kp H_l_take.b (pad_pool 1 (pad_cons (pd_cb cad_len call_len (by rfl) T.b_len PySem.boot_len (pad_cons (pd_var 0) pad_nil)) pad_nil))))
  (psd_cons (psd_for .leaving rfl (pid_seq (pd_slice (pd_var 0) (pod_some (pd_var 2)) (pod_some (pd_op op_addA opd_add (pd_var 2) pd_int)))) (pg_name (i := 3) sc_l_ordered.nd rfl (by first | exact Or.inl rfl | exact Or.inr rfl)) bnd_name
  (psd_one (psd_for .leaving rfl (pid_seq (pd_slice (pd_var 0) pod_none (pod_some pd_int))) (pg_name (i := 4) sc_l_ordered.nd rfl (by first | exact Or.inl rfl | exact Or.inr rfl)) bnd_name
  (psd_cons (psd_set sc_l_ordered.nd rfl (by first | exact Or.inl rfl | exact Or.inr rfl) (pd_call tk H_is_less.F (hr.mono (by decide)) (by rfl) H_is_less.m H_is_less.kp H_is_less.b (pad_cons (pd_var 3) (pad_cons (pd_var 4) pad_nil))))
  (psd_one (psd_if (PWd.pt (pwd_or (ptd_not (ptd_val (pd_isi kit_bool (by rfl) T.b_isinstance (pd_var 5) (pe_bltn (by rfl) T.b_bool (by decide +kernel) rfl)))) (pwd_or1 (ptd_cmp (op_neD hr.units) opd_ne (pd_var 5) (pd_cmp op_lt opd_lt (pd_op op_mulA opd_mulA (pd_ix ix_seq opd_ix (pd_var 3) pd_int (fun _ _ => rfl)) (pd_ix ix_seq opd_ix (pd_var 4) pd_int (fun _ _ => rfl))) (pd_op op_mulA opd_mulA (pd_ix ix_seq opd_ix (pd_var 4) pd_int (fun _ _ => rfl)) (pd_ix ix_seq opd_ix (pd_var 3) pd_int (fun _ _ => rfl))) (nomark _)) (nomark _)))))
  (psd_one (psd_ret pd_bl))
  psd_nil))))))
  (psd_one (psd_ret pd_bl))))
abbrev s_l_refused : Stmt := topS 43
abbrev N_l_refused : List Str := ["_law_pool_here", "_law_left", "_law_right", "_law_named", "_law_bad_here", "_law_spot", "_law_spoilt", "_law_deed", "_law_longer", "_law_inside"]
theorem sc_l_refused : FnScope N_l_refused ["_law_pool_here", "_law_left", "_law_right", "_law_named"] (defScope s_l_refused) := ⟨rfl, rfl, rfl, by decide +kernel, rfl, by decide +kernel, by decide +kernel⟩
def w_l_refused (C : Addr) : WS := (wSeq (wAsg 4 (wCall 1 c_l_bad (aPool 0 aNil)))
  (wSeq (wAsg 5 (wCall 2 c_l_take (aPool 0 (aCons (wOp fAdd (wCB fLen (aCons (wVar 1) aNil)) (wC (.int 1))) aNil))))
  (wSeq (wAsg 6 (wCB fTupOf (aCons (wOp fAdd (wOp fAdd (wSl (wVar 1) oNone (oSome (wVar 5))) (wLst (aCons (wVar 4) aNil))) (wSl (wVar 1) (oSome (wVar 5)) oNone)) aNil)))
  (wSeq (wFor (wRng1 (wC (.int 4))) [7] bName
  (wSeq (wIfS (wTst (wOp fNe (wCall 4 (c_l_ask C) (aCons (wVar 7) (aCons (wVar 6) (aCons (wCB fTupOf (aCons (wVar 2) aNil)) (aCons (wVar 3) aNil))))) (wTup (aCons (wC (.str "refused")) (aCons (wC (.str "row")) aNil)))))
  (wRet (wC (.bool false)))
  wNext)
  (wIfS (wTst (wOp fNe (wCall 4 (c_l_ask C) (aCons (wVar 7) (aCons (wLstOf (wVar 1)) (aCons (wLstOf (wVar 2)) (aCons (wVar 3) aNil))))) (wTup (aCons (wC (.str "refused")) (aCons (wC (.str "row")) aNil)))))
  (wRet (wC (.bool false)))
  wNext)))
  (wSeq (wAsg 8 (wOp fAdd (wCB fTupOf (aCons (wVar 2) aNil)) (wTup (aCons (wTup (aCons (wC (.int 1)) (aCons (wC (.int 2)) aNil))) aNil))))
  (wSeq (wIfS (wTst (wOp fNe (wCall 4 (c_l_ask C) (aCons (wC (.int 1)) (aCons (wCB fTupOf (aCons (wVar 1) aNil)) (aCons (wVar 8) (aCons (wVar 3) aNil))))) (wTup (aCons (wC (.str "refused")) (aCons (wC (.str "others")) aNil)))))
  (wRet (wC (.bool false)))
  wNext)
  (wSeq (wIfS (wTst (wOp fNe (wCall 4 (c_l_ask C) (aCons (wC (.int 1)) (aCons (wVar 8) (aCons (wCB fTupOf (aCons (wVar 1) aNil)) (aCons (vNot (wVar 3)) aNil))))) (wTup (aCons (wC (.str "refused")) (aCons (wC (.str "others")) aNil)))))
  (wRet (wC (.bool false)))
  wNext)
  (wSeq (wIfS (wTst (wOp fNe (wCall 4 (c_l_ask C) (aCons (wC (.int 1)) (aCons (wCB fTupOf (aCons (wVar 1) aNil)) (aCons (wLstOf (wVar 2)) (aCons (wVar 3) aNil))))) (wTup (aCons (wC (.str "refused")) (aCons (wC (.str "others")) aNil)))))
  (wRet (wC (.bool false)))
  wNext)
  (wSeq (wAsgC 9 (wLstOf (wVar 2)))
  (wSeq (wIfS (wTst (wOp fGt (wLenC 9) (wC (.int 0))))
  (wSeq (wSetI 9 (wCall 2 c_l_take (aPool 0 (aCons (wLenC 9) aNil))) (wVar 4))
  (wIfS (wTst (wOp fNe (wCall 4 (c_l_ask C) (aCons (wC (.int 1)) (aCons (wCB fTupOf (aCons (wVar 1) aNil)) (aCons (wTupC 9) (aCons (wVar 3) aNil))))) (wTup (aCons (wC (.str "refused")) (aCons (wC (.str "others")) aNil)))))
  (wRet (wC (.bool false)))
  wNext))
  wNext)
  (wSeq (wFor (wSeqI (wLst (aCons (wC (.int 2)) (aCons (wC (.int 3)) aNil)))) [7] bName
  (wIfS (wTst (wOp fNe (wCall 4 (c_l_ask C) (aCons (wVar 7) (aCons (wTup aNil) (aCons (wTup aNil) (aCons (wVar 3) aNil))))) (wTup (aCons (wC (.str "refused")) (aCons (wC (.str "row")) aNil)))))
  (wRet (wC (.bool false)))
  wNext))
  (wRet (wC (.bool true))))))))))))))
theorem d_l_refused {a_l_refused : Addr} (T : Tx K mg C fI fdI) {a_l_ask : Addr} {fd_l_ask : FuncData} {a_l_take : Addr} {fd_l_take : FuncData} {a_l_bad : Addr} {fd_l_bad : FuncData} (H_l_bad : Cl P w K mg base 3 "_law_bad" s_l_bad ["_law_pool_here"] 1 c_l_bad a_l_bad fd_l_bad) (H_l_take : Cl P w K mg base 2 "_law_take" s_l_take ["_law_pool_here", "_law_size"] 2 c_l_take a_l_take fd_l_take) (H_l_ask : Cl P w K mg base 5 "_law_ask" s_l_ask ["_law_deed", "_law_left", "_law_right", "_law_named"] 4 (c_l_ask C) a_l_ask fd_l_ask) : ∀ (cdv : Value) (A : Around) (outer : List Env) (s : Shared) (H : Hp) (E : XK), Room 5 (cxOf (L2N.CX P w) P w K mg base N_l_refused "_law_refused" (defScope s_l_refused) a_l_refused cdv A outer s H E).A → L2N.Takes (cxOf (L2N.CX P w) P w K mg base N_l_refused "_law_refused" (defScope s_l_refused) a_l_refused cdv A outer s H E) (fun cls d _ H => E cls d H) →
    PSsd (cxOf (L2N.CX P w) P w K mg base N_l_refused "_law_refused" (defScope s_l_refused) a_l_refused cdv A outer s H E) (fun cls d _ H => E cls d H) (defBody s_l_refused) (w_l_refused C) := fun cdv A outer s H E hr tk =>
  (psd_cons (psd_set sc_l_refused.nd rfl (by first | exact Or.inl rfl | exact Or.inr rfl) (pd_call tk H_l_bad.F (hr.mono (by decide)) (by rfl) H_l_bad.m H_l_bad.kp H_l_bad.b (pad_pool 0 pad_nil)))
  (psd_cons (psd_set sc_l_refused.nd rfl (by first | exact Or.inl rfl | exact Or.inr rfl) (pd_call tk H_l_take.F (hr.mono (by decide)) (by rfl) H_l_take.m H_l_take.kp H_l_take.b (pad_pool 0 (pad_cons (pd_op op_addA opd_add (pd_cb cad_len call_len (by rfl) T.b_len PySem.boot_len (pad_cons (pd_var 1) pad_nil)) pd_int) pad_nil))))
  (psd_cons (psd_set sc_l_refused.nd rfl (by first | exact Or.inl rfl | exact Or.inr rfl) (pd_cty cad_tupOf call_tuple_of (by rfl) T.b_tuple (by decide +kernel) (pad_cons (pd_op op_addA opd_add (pd_op op_addA opd_add (pd_slice (pd_var 1) pod_none (pod_some (pd_var 5))) (PF.pd (pf_lst (pad_cons (pd_var 4) pad_nil)))) (pd_slice (pd_var 1) (pod_some (pd_var 5)) pod_none)) pad_nil)))
  (psd_cons (psd_for .leaving rfl (pid_rng1 (by rfl) T.b_range pd_int) (pg_name (i := 7) sc_l_refused.nd rfl (by first | exact Or.inl rfl | exact Or.inr rfl)) bnd_name
  (psd_cons (psd_if (ptd_cmp (op_neD hr.units) opd_ne (pd_call tk H_l_ask.F (hr.mono (by decide)) (by rfl) H_l_ask.m H_l_ask.kp H_l_ask.b (pad_cons (pd_var 7) (pad_cons (pd_var 6) (pad_cons (pd_cty cad_tupOf call_tuple_of (by rfl) T.b_tuple (by decide +kernel) (pad_cons (pd_var 2) pad_nil)) (pad_cons (pd_var 3) pad_nil))))) (pd_tup (pad_cons pd_str (pad_cons pd_str pad_nil))) (nomark _))
  (psd_one (psd_ret pd_bl))
  psd_nil)
  (psd_one (psd_if (ptd_cmp (op_neD hr.units) opd_ne (pd_call tk H_l_ask.F (hr.mono (by decide)) (by rfl) H_l_ask.m H_l_ask.kp H_l_ask.b (pad_cons (pd_var 7) (pad_cons (PF.pd (pf_lstOf (by rfl) T.b_list (pd_var 1))) (pad_cons (PF.pd (pf_lstOf (by rfl) T.b_list (pd_var 2))) (pad_cons (pd_var 3) pad_nil))))) (pd_tup (pad_cons pd_str (pad_cons pd_str pad_nil))) (nomark _))
  (psd_one (psd_ret pd_bl))
  psd_nil))))
  (psd_cons (psd_set sc_l_refused.nd rfl (by first | exact Or.inl rfl | exact Or.inr rfl) (pd_op op_addA opd_add (pd_cty cad_tupOf call_tuple_of (by rfl) T.b_tuple (by decide +kernel) (pad_cons (pd_var 2) pad_nil)) (pd_tup (pad_cons (pd_tup (pad_cons pd_int (pad_cons pd_int pad_nil))) pad_nil))))
  (psd_cons (psd_if (ptd_cmp (op_neD hr.units) opd_ne (pd_call tk H_l_ask.F (hr.mono (by decide)) (by rfl) H_l_ask.m H_l_ask.kp H_l_ask.b (pad_cons pd_int (pad_cons (pd_cty cad_tupOf call_tuple_of (by rfl) T.b_tuple (by decide +kernel) (pad_cons (pd_var 1) pad_nil)) (pad_cons (pd_var 8) (pad_cons (pd_var 3) pad_nil))))) (pd_tup (pad_cons pd_str (pad_cons pd_str pad_nil))) (nomark _))
  (psd_one (psd_ret pd_bl))
  psd_nil)
  (psd_cons (psd_if (ptd_cmp (op_neD hr.units) opd_ne (pd_call tk H_l_ask.F (hr.mono (by decide)) (by rfl) H_l_ask.m H_l_ask.kp H_l_ask.b (pad_cons pd_int (pad_cons (pd_var 8) (pad_cons (pd_cty cad_tupOf call_tuple_of (by rfl) T.b_tuple (by decide +kernel) (pad_cons (pd_var 1) pad_nil)) (pad_cons (pd_not (pd_var 3)) pad_nil))))) (pd_tup (pad_cons pd_str (pad_cons pd_str pad_nil))) (nomark _))
  (psd_one (psd_ret pd_bl))
  psd_nil)
  (psd_cons (psd_if (ptd_cmp (op_neD hr.units) opd_ne (pd_call tk H_l_ask.F (hr.mono (by decide)) (by rfl) H_l_ask.m H_l_ask.kp H_l_ask.b (pad_cons pd_int (pad_cons (pd_cty cad_tupOf call_tuple_of (by rfl) T.b_tuple (by decide +kernel) (pad_cons (pd_var 1) pad_nil)) (pad_cons (PF.pd (pf_lstOf (by rfl) T.b_list (pd_var 2))) (pad_cons (pd_var 3) pad_nil))))) (pd_tup (pad_cons pd_str (pad_cons pd_str pad_nil))) (nomark _))
  (psd_one (psd_ret pd_bl))
  psd_nil)
  (psd_cons (psd_setC sc_l_refused.nd rfl (by first | exact Or.inl rfl | exact Or.inr rfl) (pf_lstOf (by rfl) T.b_list (pd_var 2)))
  (psd_cons (psd_if (ptd_cmp op_gt opd_gt (pd_lenC 9 (by rfl) T.b_len) pd_int (nomark _))
  (psd_cons (psd_setI (ps_asg (pd_var 4) (pg_sub (pv 9) (pd_call tk H_l_take.F (hr.mono (by decide)) (by rfl) H_l_take.m H_l_take.kp H_l_take.b (pad_pool 0 (pad_cons (pd_lenC 9 (by rfl) T.b_len) pad_nil))) set_list)))
  (psd_one (psd_if (ptd_cmp (op_neD hr.units) opd_ne (pd_call tk H_l_ask.F (hr.mono (by decide)) (by rfl) H_l_ask.m H_l_ask.kp H_l_ask.b (pad_cons pd_int (pad_cons (pd_cty cad_tupOf call_tuple_of (by rfl) T.b_tuple (by decide +kernel) (pad_cons (pd_var 1) pad_nil)) (pad_cons (pd_tupC 9 (by rfl) T.b_tuple) (pad_cons (pd_var 3) pad_nil))))) (pd_tup (pad_cons pd_str (pad_cons pd_str pad_nil))) (nomark _))
  (psd_one (psd_ret pd_bl))
  psd_nil)))
  psd_nil)
  (psd_cons (psd_for .leaving rfl (pid_seq (PF.pd (pf_lst (pad_cons pd_int (pad_cons pd_int pad_nil))))) (pg_name (i := 7) sc_l_refused.nd rfl (by first | exact Or.inl rfl | exact Or.inr rfl)) bnd_name
  (psd_one (psd_if (ptd_cmp (op_neD hr.units) opd_ne (pd_call tk H_l_ask.F (hr.mono (by decide)) (by rfl) H_l_ask.m H_l_ask.kp H_l_ask.b (pad_cons (pd_var 7) (pad_cons (pd_tup pad_nil) (pad_cons (pd_tup pad_nil) (pad_cons (pd_var 3) pad_nil))))) (pd_tup (pad_cons pd_str (pad_cons pd_str pad_nil))) (nomark _))
  (psd_one (psd_ret pd_bl))
  psd_nil)))
  (psd_one (psd_ret pd_bl)))))))))))))
/-! law: by hand -/
abbrev s_law : Stmt := topS 44
abbrev N_law : List Str := ["_law_script", "_law_pool_here", "_law_named", "_law_drawn", "_law_left", "_law_right", "_law_ones", "_law_told", "_law_heavy", "_law_whole_here"]
theorem sc_law : FnScope N_law ["_law_script"] (defScope s_law) := ⟨rfl, rfl, rfl, by decide +kernel, rfl, by decide +kernel, by decide +kernel⟩
def w_law (C : Addr) : WS := (wSeq (wAsg 2 (wOp fEq (wCall 2 c_l_take (aPool 1 (aCons (wC (.int 2)) aNil))) (wC (.int 1))))
  (wSeq (wAsg 3 (wCall 1 c_l_rows (aPool 1 aNil)))
  (wSeq (wAsg 4 (wOp fIx (wVar 3) (wC (.int 0))))
  (wSeq (wAsg 5 (wOp fIx (wVar 3) (wC (.int 1))))
  (wSeq (wAsg 6 (wOp fMulA (wLst (aCons (wTup (aCons (wC (.int 1)) (aCons (wC (.int 1)) aNil))) aNil)) (wCB fLen (aCons (wVar 4) aNil))))
  (wSeq (wAsg 7 (wCall 4 (c_l_ask C) (aCons (wC (.int 0)) (aCons (wCB fTupOf (aCons (wVar 4) aNil)) (aCons (wTup aNil) (aCons (wVar 2) aNil))))))
  (wSeq (wAsg 8 (wCall 4 (c_l_ask C) (aCons (wC (.int 1)) (aCons (wCB fTupOf (aCons (wVar 4) aNil)) (aCons (wCB fTupOf (aCons (wVar 5) aNil)) (aCons (vNot (wVar 2)) aNil))))))
  (wSeq (wIfS (wOr (wNot (wTst (wCall 3 c_l_sum (aCons (wVar 4) (aCons (wVar 6) (aCons (wVar 7) aNil)))))) (wNot (wTst (wCall 3 c_l_sum (aCons (wVar 4) (aCons (wVar 5) (aCons (wVar 8) aNil)))))))
  (wRet (wC (.bool false)))
  wNext)
  (wSeq (wIfS (wNot (wTst (wCall 3 c_l_sum (aCons (wVar 5) (aCons (wVar 6) (aCons (wCall 4 (c_l_ask C) (aCons (wC (.int 0)) (aCons (wCB fTupOf (aCons (wVar 5) aNil)) (aCons (wTup aNil) (aCons (vNot (wVar 2)) aNil))))) aNil))))))
  (wRet (wC (.bool false)))
  wNext)
  (wSeq (wIfS (wNot (wTst (wCall 3 c_l_sum (aCons (wVar 4) (aCons (wVar 4) (aCons (wCall 4 (c_l_ask C) (aCons (wC (.int 1)) (aCons (wCB fTupOf (aCons (wVar 4) aNil)) (aCons (wCB fTupOf (aCons (wVar 4) aNil)) (aCons (wVar 2) aNil))))) aNil))))))
  (wRet (wC (.bool false)))
  wNext)
  (wSeq (wIfS (wTst (wOp fNe (wCall 4 (c_l_ask C) (aCons (wC (.int 1)) (aCons (wCB fTupOf (aCons (wRev (wVar 5)) aNil)) (aCons (wCB fTupOf (aCons (wRev (wVar 4)) aNil)) (aCons (wVar 2) aNil))))) (wVar 8)))
  (wRet (wC (.bool false)))
  wNext)
  (wSeq (wIfS (wAnd (wTst (wOp fEq (wOp fIx (wVar 3) (wC (.int 2))) (wC (.int 0)))) (wNot (wTst (wCall 4 (c_l_folded C) (aCons (wVar 4) (aCons (wVar 5) (aCons (wOp fIx (wVar 7) (wC (.int 1))) (aCons (wOp fIx (wVar 8) (wC (.int 1))) aNil))))))))
  (wRet (wC (.bool false)))
  wNext)
  (wSeq (wIfS (wNot (wTst (wCall 4 (c_l_refused C) (aPool 1 (aCons (wVar 4) (aCons (wVar 5) (aCons (wVar 2) aNil)))))))
  (wRet (wC (.bool false)))
  wNext)
  (wSeq (wAsg 9 (wOp fAdd (wVar 4) (wVar 5)))
  (wSeq (wIfS (wTst (wOp fEq (wCB fLen (aCons (wVar 9) aNil)) (wC (.int 0))))
  (wRet (wC (.bool true)))
  wNext)
  (wSeq (wIfS (wNot (wTst (wCall 3 c_l_end (aCons (wVar 9) (aCons (wCall 4 (c_l_ask C) (aCons (wC (.int 2)) (aCons (wCB fTupOf (aCons (wVar 9) aNil)) (aCons (wTup aNil) (aCons (wVar 2) aNil))))) (aCons (wC (.int 1)) aNil))))))
  (wRet (wC (.bool false)))
  wNext)
  (wSeq (wIfS (wNot (wTst (wCall 3 c_l_end (aCons (wVar 9) (aCons (wCall 4 (c_l_ask C) (aCons (wC (.int 3)) (aCons (wCB fTupOf (aCons (wVar 9) aNil)) (aCons (wTup aNil) (aCons (vNot (wVar 2)) aNil))))) (aCons (wUn fNeg (wC (.int 1))) aNil))))))
  (wRet (wC (.bool false)))
  wNext)
  (wSeq (wIfS (wNot (wTst (wCall 3 c_l_end (aCons (wVar 5) (aCons (wCall 4 (c_l_ask C) (aCons (wC (.int 2)) (aCons (wCB fTupOf (aCons (wVar 5) aNil)) (aCons (wTup aNil) (aCons (vNot (wVar 2)) aNil))))) (aCons (wC (.int 1)) aNil))))))
  (wRet (wC (.bool false)))
  wNext)
  (wRet (vAnd (wCall 3 c_l_end (aCons (wVar 4) (aCons (wCall 4 (c_l_ask C) (aCons (wC (.int 3)) (aCons (wCB fTupOf (aCons (wVar 4) aNil)) (aCons (wTup aNil) (aCons (wVar 2) aNil))))) (aCons (wUn fNeg (wC (.int 1))) aNil)))) (wCall 2 (c_l_ordered C) (aCons (wVar 9) (aPool 1 aNil)))))))))))))))))))))))
theorem d_law {a_law : Addr} (T : Tx K mg C fI fdI) {a_l_folded : Addr} {fd_l_folded : FuncData} {a_l_ordered : Addr} {fd_l_ordered : FuncData} {a_l_end : Addr} {fd_l_end : FuncData} {a_l_refused : Addr} {fd_l_refused : FuncData} {a_l_sum : Addr} {fd_l_sum : FuncData} {a_l_take : Addr} {fd_l_take : FuncData} {a_l_ask : Addr} {fd_l_ask : FuncData} {a_l_rows : Addr} {fd_l_rows : FuncData} (H_l_rows : Cl P w K mg base 4 "_law_rows" s_l_rows ["_law_pool_here"] 1 c_l_rows a_l_rows fd_l_rows) (H_l_ask : Cl P w K mg base 5 "_law_ask" s_l_ask ["_law_deed", "_law_left", "_law_right", "_law_named"] 4 (c_l_ask C) a_l_ask fd_l_ask) (H_l_take : Cl P w K mg base 2 "_law_take" s_l_take ["_law_pool_here", "_law_size"] 2 c_l_take a_l_take fd_l_take) (H_l_sum : Cl P w K mg base 4 "_law_sum" s_l_sum ["_law_left", "_law_right", "_law_told"] 3 c_l_sum a_l_sum fd_l_sum) (H_l_refused : Cl P w K mg base 6 "_law_refused" s_l_refused ["_law_pool_here", "_law_left", "_law_right", "_law_named"] 4 (c_l_refused C) a_l_refused fd_l_refused) (H_l_end : Cl P w K mg base 3 "_law_end" s_l_end ["_law_row_held", "_law_told", "_law_sign"] 3 c_l_end a_l_end fd_l_end) (H_l_ordered : Cl P w K mg base 6 "_law_ordered" s_l_ordered ["_law_row_held", "_law_pool_here"] 2 (c_l_ordered C) a_l_ordered fd_l_ordered) (H_l_folded : Cl P w K mg base 6 "_law_folded" s_l_folded ["_law_left", "_law_right", "_law_due_total", "_law_due_weighed"] 4 (c_l_folded C) a_l_folded fd_l_folded) : ∀ (cdv : Value) (A : Around) (outer : List Env) (s : Shared) (H : Hp) (E : XK), Room 6 (cxOf (L2N.CX P w) P w K mg base N_law "law" (defScope s_law) a_law cdv A outer s H E).A → L2N.Takes (cxOf (L2N.CX P w) P w K mg base N_law "law" (defScope s_law) a_law cdv A outer s H E) (fun cls d _ H => E cls d H) →
    PSsd (cxOf (L2N.CX P w) P w K mg base N_law "law" (defScope s_law) a_law cdv A outer s H E) (fun cls d _ H => E cls d H) (defBody s_law).tail (w_law C) := fun cdv A outer s H E hr tk =>
  (psd_cons (psd_set sc_law.nd rfl (by first | exact Or.inl rfl | exact Or.inr rfl) (pd_cmp (op_eqD hr.units) opd_eq (pd_call tk H_l_take.F (hr.mono (by decide)) (by rfl) H_l_take.m H_l_take.kp H_l_take.b (pad_pool 1 (pad_cons pd_int pad_nil))) pd_int (nomark _)))
  (psd_cons (psd_set sc_law.nd rfl (by first | exact Or.inl rfl | exact Or.inr rfl) (pd_call tk H_l_rows.F (hr.mono (by decide)) (by rfl) H_l_rows.m H_l_rows.kp H_l_rows.b (pad_pool 1 pad_nil)))
  (psd_cons (psd_set sc_law.nd rfl (by first | exact Or.inl rfl | exact Or.inr rfl) (pd_ix ix_seq opd_ix (pd_var 3) pd_int (fun _ _ => rfl)))
  (psd_cons (psd_set sc_law.nd rfl (by first | exact Or.inl rfl | exact Or.inr rfl) (pd_ix ix_seq opd_ix (pd_var 3) pd_int (fun _ _ => rfl)))
  (psd_cons (psd_set sc_law.nd rfl (by first | exact Or.inl rfl | exact Or.inr rfl) (pd_op op_mulA opd_mulA (PF.pd (pf_lst (pad_cons (pd_tup (pad_cons pd_int (pad_cons pd_int pad_nil))) pad_nil))) (pd_cb cad_len call_len (by rfl) T.b_len PySem.boot_len (pad_cons (pd_var 4) pad_nil))))
  (psd_cons (psd_set sc_law.nd rfl (by first | exact Or.inl rfl | exact Or.inr rfl) (pd_call tk H_l_ask.F (hr.mono (by decide)) (by rfl) H_l_ask.m H_l_ask.kp H_l_ask.b (pad_cons pd_int (pad_cons (pd_cty cad_tupOf call_tuple_of (by rfl) T.b_tuple (by decide +kernel) (pad_cons (pd_var 4) pad_nil)) (pad_cons (pd_tup pad_nil) (pad_cons (pd_var 2) pad_nil))))))
  (psd_cons (psd_set sc_law.nd rfl (by first | exact Or.inl rfl | exact Or.inr rfl) (pd_call tk H_l_ask.F (hr.mono (by decide)) (by rfl) H_l_ask.m H_l_ask.kp H_l_ask.b (pad_cons pd_int (pad_cons (pd_cty cad_tupOf call_tuple_of (by rfl) T.b_tuple (by decide +kernel) (pad_cons (pd_var 4) pad_nil)) (pad_cons (pd_cty cad_tupOf call_tuple_of (by rfl) T.b_tuple (by decide +kernel) (pad_cons (pd_var 5) pad_nil)) (pad_cons (pd_not (pd_var 2)) pad_nil))))))
  (psd_cons (psd_if (PWd.pt (pwd_or (ptd_not (ptd_val (pd_call tk H_l_sum.F (hr.mono (by decide)) (by rfl) H_l_sum.m H_l_sum.kp H_l_sum.b (pad_cons (pd_var 4) (pad_cons (pd_var 6) (pad_cons (pd_var 7) pad_nil)))))) (pwd_or1 (ptd_not (ptd_val (pd_call tk H_l_sum.F (hr.mono (by decide)) (by rfl) H_l_sum.m H_l_sum.kp H_l_sum.b (pad_cons (pd_var 4) (pad_cons (pd_var 5) (pad_cons (pd_var 8) pad_nil)))))))))
  (psd_one (psd_ret pd_bl))
  psd_nil)
  (psd_cons (psd_if (ptd_not (ptd_val (pd_call tk H_l_sum.F (hr.mono (by decide)) (by rfl) H_l_sum.m H_l_sum.kp H_l_sum.b (pad_cons (pd_var 5) (pad_cons (pd_var 6) (pad_cons (pd_call tk H_l_ask.F (hr.mono (by decide)) (by rfl) H_l_ask.m H_l_ask.kp H_l_ask.b (pad_cons pd_int (pad_cons (pd_cty cad_tupOf call_tuple_of (by rfl) T.b_tuple (by decide +kernel) (pad_cons (pd_var 5) pad_nil)) (pad_cons (pd_tup pad_nil) (pad_cons (pd_not (pd_var 2)) pad_nil))))) pad_nil))))))
  (psd_one (psd_ret pd_bl))
  psd_nil)
  (psd_cons (psd_if (ptd_not (ptd_val (pd_call tk H_l_sum.F (hr.mono (by decide)) (by rfl) H_l_sum.m H_l_sum.kp H_l_sum.b (pad_cons (pd_var 4) (pad_cons (pd_var 4) (pad_cons (pd_call tk H_l_ask.F (hr.mono (by decide)) (by rfl) H_l_ask.m H_l_ask.kp H_l_ask.b (pad_cons pd_int (pad_cons (pd_cty cad_tupOf call_tuple_of (by rfl) T.b_tuple (by decide +kernel) (pad_cons (pd_var 4) pad_nil)) (pad_cons (pd_cty cad_tupOf call_tuple_of (by rfl) T.b_tuple (by decide +kernel) (pad_cons (pd_var 4) pad_nil)) (pad_cons (pd_var 2) pad_nil))))) pad_nil))))))
  (psd_one (psd_ret pd_bl))
  psd_nil)
  (psd_cons (psd_if (ptd_cmp (op_neD hr.units) opd_ne (pd_call tk H_l_ask.F (hr.mono (by decide)) (by rfl) H_l_ask.m H_l_ask.kp H_l_ask.b (pad_cons pd_int (pad_cons (pd_cty cad_tupOf call_tuple_of (by rfl) T.b_tuple (by decide +kernel) (pad_cons (pd_rev (pd_var 5)) pad_nil)) (pad_cons (pd_cty cad_tupOf call_tuple_of (by rfl) T.b_tuple (by decide +kernel) (pad_cons (pd_rev (pd_var 4)) pad_nil)) (pad_cons (pd_var 2) pad_nil))))) (pd_var 8) (nomark _))
  (psd_one (psd_ret pd_bl))
  psd_nil)
  (psd_cons (psd_if (PWd.pt (pwd_and (ptd_cmp (op_eqD hr.units) opd_eq (pd_ix ix_seq opd_ix (pd_var 3) pd_int (fun _ _ => rfl)) pd_int (nomark _)) (pwd_and1 (ptd_not (ptd_val (pd_call tk H_l_folded.F (hr.mono (by decide)) (by rfl) H_l_folded.m H_l_folded.kp H_l_folded.b (pad_cons (pd_var 4) (pad_cons (pd_var 5) (pad_cons (pd_ix ix_seq opd_ix (pd_var 7) pd_int (fun _ _ => rfl)) (pad_cons (pd_ix ix_seq opd_ix (pd_var 8) pd_int (fun _ _ => rfl)) pad_nil))))))))))
  (psd_one (psd_ret pd_bl))
  psd_nil)
  (psd_cons (psd_if (ptd_not (ptd_val (pd_call tk H_l_refused.F (hr.mono (by decide)) (by rfl) H_l_refused.m H_l_refused.kp H_l_refused.b (pad_pool 1 (pad_cons (pd_var 4) (pad_cons (pd_var 5) (pad_cons (pd_var 2) pad_nil)))))))
  (psd_one (psd_ret pd_bl))
  psd_nil)
  (psd_cons (psd_set sc_law.nd rfl (by first | exact Or.inl rfl | exact Or.inr rfl) (pd_op op_addA opd_add (pd_var 4) (pd_var 5)))
  (psd_cons (psd_if (ptd_cmp (op_eqD hr.units) opd_eq (pd_cb cad_len call_len (by rfl) T.b_len PySem.boot_len (pad_cons (pd_var 9) pad_nil)) pd_int (nomark _))
  (psd_one (psd_ret pd_bl))
  psd_nil)
  (psd_cons (psd_if (ptd_not (ptd_val (pd_call tk H_l_end.F (hr.mono (by decide)) (by rfl) H_l_end.m H_l_end.kp H_l_end.b (pad_cons (pd_var 9) (pad_cons (pd_call tk H_l_ask.F (hr.mono (by decide)) (by rfl) H_l_ask.m H_l_ask.kp H_l_ask.b (pad_cons pd_int (pad_cons (pd_cty cad_tupOf call_tuple_of (by rfl) T.b_tuple (by decide +kernel) (pad_cons (pd_var 9) pad_nil)) (pad_cons (pd_tup pad_nil) (pad_cons (pd_var 2) pad_nil))))) (pad_cons pd_int pad_nil))))))
  (psd_one (psd_ret pd_bl))
  psd_nil)
  (psd_cons (psd_if (ptd_not (ptd_val (pd_call tk H_l_end.F (hr.mono (by decide)) (by rfl) H_l_end.m H_l_end.kp H_l_end.b (pad_cons (pd_var 9) (pad_cons (pd_call tk H_l_ask.F (hr.mono (by decide)) (by rfl) H_l_ask.m H_l_ask.kp H_l_ask.b (pad_cons pd_int (pad_cons (pd_cty cad_tupOf call_tuple_of (by rfl) T.b_tuple (by decide +kernel) (pad_cons (pd_var 9) pad_nil)) (pad_cons (pd_tup pad_nil) (pad_cons (pd_not (pd_var 2)) pad_nil))))) (pad_cons (pd_un un_neg und_neg pd_int) pad_nil))))))
  (psd_one (psd_ret pd_bl))
  psd_nil)
  (psd_cons (psd_if (ptd_not (ptd_val (pd_call tk H_l_end.F (hr.mono (by decide)) (by rfl) H_l_end.m H_l_end.kp H_l_end.b (pad_cons (pd_var 5) (pad_cons (pd_call tk H_l_ask.F (hr.mono (by decide)) (by rfl) H_l_ask.m H_l_ask.kp H_l_ask.b (pad_cons pd_int (pad_cons (pd_cty cad_tupOf call_tuple_of (by rfl) T.b_tuple (by decide +kernel) (pad_cons (pd_var 5) pad_nil)) (pad_cons (pd_tup pad_nil) (pad_cons (pd_not (pd_var 2)) pad_nil))))) (pad_cons pd_int pad_nil))))))
  (psd_one (psd_ret pd_bl))
  psd_nil)
  (psd_one (psd_ret (pd_and (pd_call tk H_l_end.F (hr.mono (by decide)) (by rfl) H_l_end.m H_l_end.kp H_l_end.b (pad_cons (pd_var 4) (pad_cons (pd_call tk H_l_ask.F (hr.mono (by decide)) (by rfl) H_l_ask.m H_l_ask.kp H_l_ask.b (pad_cons pd_int (pad_cons (pd_cty cad_tupOf call_tuple_of (by rfl) T.b_tuple (by decide +kernel) (pad_cons (pd_var 4) pad_nil)) (pad_cons (pd_tup pad_nil) (pad_cons (pd_var 2) pad_nil))))) (pad_cons (pd_un un_neg und_neg pd_int) pad_nil)))) (pd_one (pd_call tk H_l_ordered.F (hr.mono (by decide)) (by rfl) H_l_ordered.m H_l_ordered.kp H_l_ordered.b (pad_cons (pd_var 9) (pad_pool 1 pad_nil)))))))))))))))))))))))))
end
end K01
-- K01t
set_option Elab.async false
set_option linter.all false
set_option maxRecDepth 100000
set_option maxHeartbeats 4000000
open PySem L2
namespace K01
open Hw
section
variable {P : Program} {w : World} {K : PySem.W.Frag} {mg : Str → Option Value} {base : Heap} {C fI : Addr} {fdI : FuncData}
theorem f_l_take {a_l_take a_l_mixed : Addr} {fd_l_take fd_l_mixed : FuncData} (T : Tx K mg C fI fdI) (F : Fun K "_law_take" "_law_take" s_l_take a_l_take fd_l_take)
    (H_l_mixed : Cl P w K mg base 1 "_law_mixed" s_l_mixed ["_law_cell", "_law_tick"] 2 c_l_mixed a_l_mixed fd_l_mixed) : FnOk P w K mg base (L2N.CX P w) 2 a_l_take fd_l_take ["_law_pool_here", "_law_size"] (spC K 2 c_l_take) := by
  refine FnOk.imp (sp := spTk) ?_ take_imp
  obtain ⟨oc, od, kV, doc, pm, an, cdv, ct, osl, rfl, lk, hcd⟩ := F.ex
  refine fn_of lk hcd sc_l_take (fun vs H Q E h => by obtain ⟨p, l, a, b, c, n, m, xs, rfl, _⟩ := h; rfl) fun A outer s H vs Q E hr h => ?_
  obtain ⟨p, l, a, b, c, n, m, xs, rfl, m0, m9, ne, hp, hl, k⟩ := h
  have tk := L2N.takes_of (X := cxOf (L2N.CX P w) P w K mg base N_l_take "_law_take" (defScope s_l_take) a_l_take cdv A outer s H E) rfl rfl rfl rfl
  have loc : ∀ {q : Prop}, q → q := fun h => h
  refine ⟨_, pss_cons (ps_if (pt_cmpR op_eq (pe_ix ix_list (pv 0) pe_int (fun _ _ => rfl)) pe_int (nomark _)) (pss_one (ps_ret pe_int)) pss_nil)
    (pss_cons (ps_if (PW.pt (pw_and (pt_cmpR op_eq (pe_ix ix_list (pv 0) pe_int (fun _ _ => rfl)) pe_int (nomark _)) (pw_and1 (pt_cmpR op_gt (pe_callB call_len_seq (by rfl) T.b_len PySem.boot_len (pa_cons (pe_ix ix_list (pv 0) pe_int (fun _ _ => rfl)) pa_nil)) pe_int (nomark _)))))
      (pss_cons (ps_set (i := 2) sc_l_take.nd rfl (Or.inl rfl) (pe_callB call_abs (by rfl) T.b_abs (by decide +kernel) (pa_cons (pe_bm PySem.F.plainAttrs_list PySem.F.slot_list_pop PySem.F.type_list_pop mt_popAt (pe_ix ix_list (pv 0) pe_int (fun _ _ => rfl)) (pa_cons pe_int pa_nil)) pa_nil)))
      (pss_cons (ps_if (pt_cmpR op_lt (pv 2) (pe_op op_pow pe_int pe_int) (nomark _))
        (pss_cons (ps_asg (pe_op op_add (pe_ix ix_list (pv 0) pe_int (fun _ _ => rfl)) pe_int) (pg_sub (pv 0) pe_int set_list))
        (pss_one (ps_ret (pe_op op_mod (pe_callTy call_int1 (by rfl) T.b_int (by decide +kernel) (pa_cons (pe_callS H_l_mixed.F (hr.mono (by decide)) (by rfl) H_l_mixed.m H_l_mixed.kp H_l_mixed.b (fun σ => L2N.passAt tk σ) (pa_cons (pv 2) (pa_cons (pe_ix ix_list (pv 0) pe_int (fun _ _ => rfl)) pa_nil))) pa_nil)) (pv 1))))) pss_nil)
      (pss_one (ps_asg (pe_op op_mod (pe_callTy call_int1 (by rfl) T.b_int (by decide +kernel) (pa_cons (pv 2) pa_nil)) (pe_op op_mulW (pe_op op_mulW (pe_op op_pow pe_int pe_int) (pe_op op_pow pe_int pe_int)) (pe_op op_pow pe_int pe_int))) (pg_sub (pv 0) pe_int set_list))))) pss_nil)
    (pss_cons (ps_if (pt_cmpR op_gt (pe_ix ix_list (pv 0) pe_int (fun _ _ => rfl)) pe_int (nomark _))
      (pss_cons (ps_set (i := 3) sc_l_take.nd rfl (Or.inl rfl) (pe_op op_mod (pe_callTy call_int1 (by rfl) T.b_int (by decide +kernel) (pa_cons (pe_ix ix_list (pv 0) pe_int (fun _ _ => rfl)) pa_nil)) (pv 1)))
      (pss_cons (ps_asg (pe_op op_fdiv (pe_ix ix_list (pv 0) pe_int (fun _ _ => rfl)) (pv 1)) (pg_sub (pv 0) pe_int set_list))
      (pss_one (ps_ret (pv 3))))) pss_nil)
    (pss_cons (ps_asg (pe_op op_add (pe_ix ix_list (pv 0) pe_int (fun _ _ => rfl)) pe_int) (pg_sub (pv 0) pe_int set_list))
    (pss_one (ps_ret (pe_op op_mod (pe_callTy call_int1 (by rfl) T.b_int (by decide +kernel) (pa_cons (pe_callS H_l_mixed.F (hr.mono (by decide)) (by rfl) H_l_mixed.m H_l_mixed.kp H_l_mixed.b (fun σ => L2N.passAt tk σ) (pa_cons (pe_ix ix_list (pv 0) pe_int (fun _ _ => rfl)) (pa_cons (pe_ix ix_list (pv 0) pe_int (fun _ _ => rfl)) pa_nil))) pa_nil)) (pv 1))))))), ?_⟩
  have fr0 : ∀ (d : Addr) (o : HO), d ≠ p → d ≠ l → H d = some o → H d = some o := fun _ _ _ _ z => z
  -- if pool[4] == 0: return 0
  refine ⟨.ref p, rfl, p, _, 4, .int n, rfl, rfl, Evl.sq_of hp, rfl, rfl, _, rfl, ite2 (fun e0 => ?_) (fun e0 => ?_)⟩
  · exact k a b xs 0 H (Int.le_refl _) m0 hp hl fun _ _ _ _ z => z
  -- if pool[1] == 0 and len(pool[0]) > 0
  refine ⟨.ref p, rfl, p, _, 1, .int a, rfl, rfl, Evl.sq_of hp, rfl, rfl, _, rfl, ite2 (fun e1 => ?_) (fun e1 => ?_)⟩
  · refine ⟨.ref p, rfl, p, _, 0, .ref l, rfl, rfl, Evl.sq_of hp, rfl, l, xs.map V.int, rfl, .inl (Evl.sq_of hl), _, _, rfl, rfl, _, rfl, ite2 (fun e2 => ?_) (fun e2 => ?_)⟩
    · have e2' : (0 : Int) < ((xs.map V.int).length : Int) := of_decide_eq_true e2
      rw [List.length_map] at e2'
      match xs, e2', hl with
      | x :: xr, _, hl =>
        -- cell = abs(pool[0].pop(0))
        refine ⟨.ref p, rfl, p, _, 0, .ref l, rfl, rfl, Evl.sq_of hp, rfl, .inl ⟨rfl, _, Evl.sq_of hl⟩, l, _, 0, 0, .int x, rfl, rfl, hl, by decide, by decide, (by simp [seqIndex?]), rfl, x, rfl, ?_⟩
        have npl : p ≠ l := ne
        have hp1 : (upd H l (.lst ((List.map V.int (x :: xr)).eraseIdx 0))) p = some (.lst [.ref l, .int a, .int b, .int c, .int n]) := by rw [upd_ne npl]; exact hp
        have hl1 : (upd H l (.lst ((List.map V.int (x :: xr)).eraseIdx 0))) l = some (.lst (xr.map V.int)) := upd_same
        have fr1 : ∀ (d : Addr) (o : HO), d ≠ p → d ≠ l → H d = some o → (upd H l (.lst ((List.map V.int (x :: xr)).eraseIdx 0))) d = some o := fun d o n1 n2 z => by rw [upd_ne n2]; exact z
        generalize upd H l (.lst ((List.map V.int (x :: xr)).eraseIdx 0)) = H1 at hp1 hl1 fr1 ⊢
        -- if cell < 10 ** 18
        refine ⟨_, rfl, _, _, rfl, rfl, ⟨by decide, by decide, by decide⟩, _, _, rfl, rfl, _, rfl, ite2 (fun e3 => ?_) (fun e3 => ?_)⟩
        · refine ⟨.ref p, rfl, p, _, 2, .int b, rfl, rfl, Evl.sq_of hp1, rfl, _, _, rfl, rfl, .ref p, rfl, p, _, 2, 2, rfl, rfl, hp1, rfl, ?_⟩
          refine ⟨_, rfl, .ref p, rfl, p, _, 2, .int (b + 1), rfl, rfl, Evl.sq_of upd_same, rfl, ?_⟩
          refine call_int2 fun r H2 s2 => .inl ⟨r, rfl, _, rfl, _, _, rfl, rfl, m0, ?_⟩
          exact k a _ xr _ _ (Int.emod_nonneg _ (by omega)) (Int.emod_lt_of_pos _ m0) (s2 _ _ upd_same) (s2 _ _ (by rw [upd_ne ne.symm]; exact hl1)) fun d o n1 n2 z => s2 _ _ (by rw [upd_ne n1]; exact fr1 d o n1 n2 z)
        · -- pool[1] = int(cell) % 10 ** 192
          refine ⟨_, rfl, .inl ⟨_, rfl, _, _, rfl, rfl, ⟨by decide, by decide, by decide⟩, _, _, rfl, rfl, ⟨by decide, by decide, by decide⟩, _, _, rfl, rfl, (show (10 ^ Int.toNat 64 : Int).natAbs.log2 + (10 ^ Int.toNat 64 : Int).natAbs.log2 < 1000000 by decide +kernel), _, _, rfl, rfl, ⟨by decide, by decide, by decide⟩, _, _, rfl, rfl, (show (10 ^ Int.toNat 64 * 10 ^ Int.toNat 64 : Int).natAbs.log2 + (10 ^ Int.toNat 64 : Int).natAbs.log2 < 1000000 by decide +kernel), _, _, rfl, rfl, (show (0 : Int) < 10 ^ Int.toNat 64 * 10 ^ Int.toNat 64 * 10 ^ Int.toNat 64 by decide +kernel), ?_⟩⟩
          refine ⟨.ref p, rfl, p, _, 1, 1, rfl, rfl, hp1, rfl, ?_⟩
          dsimp only
          generalize hA : (if x < 0 then -x else x) % (10 ^ Int.toNat 64 * 10 ^ Int.toNat 64 * 10 ^ Int.toNat 64) = A1
          have hp2 : (upd H1 p (.lst ([V.ref l, .int a, .int b, .int c, .int n].set 1 (.int A1)))) p = some (.lst [.ref l, .int A1, .int b, .int c, .int n]) := upd_same
          have hl2 : (upd H1 p (.lst ([V.ref l, .int a, .int b, .int c, .int n].set 1 (.int A1)))) l = some (.lst (xr.map V.int)) := by rw [upd_ne ne.symm]; exact hl1
          have fr2 : ∀ (d : Addr) (o : HO), d ≠ p → d ≠ l → H d = some o → (upd H1 p (.lst ([V.ref l, .int a, .int b, .int c, .int n].set 1 (.int A1)))) d = some o := fun d o n1 n2 z => by rw [upd_ne n1]; exact fr1 d o n1 n2 z
          generalize upd H1 p (.lst ([V.ref l, .int a, .int b, .int c, .int n].set 1 (.int A1))) = H3 at hp2 hl2 fr2 ⊢
          -- if pool[1] > 0
          refine ⟨.ref p, rfl, p, _, 1, .int A1, rfl, rfl, Evl.sq_of hp2, rfl, _, _, rfl, rfl, _, rfl, ite2 (fun e3 => ?_) (fun e3 => ?_)⟩
          · -- the number's next digit
            refine ⟨.ref p, rfl, p, _, 1, .int A1, rfl, rfl, Evl.sq_of hp2, rfl, .inl ⟨_, rfl, _, rfl, _, _, rfl, rfl, m0, ?_⟩⟩
            refine ⟨.ref p, rfl, p, _, 1, .int A1, rfl, rfl, Evl.sq_of hp2, rfl, _, rfl, _, _, rfl, rfl, ⟨m0, m9⟩, .ref p, rfl, p, _, 1, 1, rfl, rfl, hp2, rfl, ?_⟩
            refine ⟨_, rfl, ?_⟩
            exact k _ b xr _ _ (Int.emod_nonneg _ (by omega)) (Int.emod_lt_of_pos _ m0) upd_same (by rw [upd_ne ne.symm]; exact hl2) fun d o n1 n2 z => by rw [upd_ne n1]; exact fr2 d o n1 n2 z
          · refine ⟨.ref p, rfl, p, _, 2, .int b, rfl, rfl, Evl.sq_of hp2, rfl, _, _, rfl, rfl, .ref p, rfl, p, _, 2, 2, rfl, rfl, hp2, rfl, ?_⟩
            refine ⟨.ref p, rfl, p, _, 3, .int c, rfl, rfl, Evl.sq_of upd_same, rfl, .ref p, rfl, p, _, 2, .int (b + 1), rfl, rfl, Evl.sq_of upd_same, rfl, ?_⟩
            refine call_int2 fun r H2 s2 => .inl ⟨r, rfl, _, rfl, _, _, rfl, rfl, m0, ?_⟩
            exact k A1 _ xr _ _ (Int.emod_nonneg _ (by omega)) (Int.emod_lt_of_pos _ m0) (s2 _ _ upd_same) (s2 _ _ (by rw [upd_ne ne.symm]; exact hl2)) fun d o n1 n2 z => s2 _ _ (by rw [upd_ne n1]; exact fr2 d o n1 n2 z)
    · skip
      -- if pool[1] > 0
      refine ⟨.ref p, rfl, p, _, 1, .int a, rfl, rfl, Evl.sq_of hp, rfl, _, _, rfl, rfl, _, rfl, ite2 (fun e3 => ?_) (fun e3 => ?_)⟩
      · -- the number's next digit
        refine ⟨.ref p, rfl, p, _, 1, .int a, rfl, rfl, Evl.sq_of hp, rfl, .inl ⟨_, rfl, _, rfl, _, _, rfl, rfl, m0, ?_⟩⟩
        refine ⟨.ref p, rfl, p, _, 1, .int a, rfl, rfl, Evl.sq_of hp, rfl, _, rfl, _, _, rfl, rfl, ⟨m0, m9⟩, .ref p, rfl, p, _, 1, 1, rfl, rfl, hp, rfl, ?_⟩
        refine ⟨_, rfl, ?_⟩
        exact k _ b xs _ _ (Int.emod_nonneg _ (by omega)) (Int.emod_lt_of_pos _ m0) upd_same (by rw [upd_ne ne.symm]; exact hl) fun d o n1 n2 z => by rw [upd_ne n1]; exact fr0 d o n1 n2 z
      · refine ⟨.ref p, rfl, p, _, 2, .int b, rfl, rfl, Evl.sq_of hp, rfl, _, _, rfl, rfl, .ref p, rfl, p, _, 2, 2, rfl, rfl, hp, rfl, ?_⟩
        refine ⟨.ref p, rfl, p, _, 3, .int c, rfl, rfl, Evl.sq_of upd_same, rfl, .ref p, rfl, p, _, 2, .int (b + 1), rfl, rfl, Evl.sq_of upd_same, rfl, ?_⟩
        refine call_int2 fun r H2 s2 => .inl ⟨r, rfl, _, rfl, _, _, rfl, rfl, m0, ?_⟩
        exact k a _ xs _ _ (Int.emod_nonneg _ (by omega)) (Int.emod_lt_of_pos _ m0) (s2 _ _ upd_same) (s2 _ _ (by rw [upd_ne ne.symm]; exact hl)) fun d o n1 n2 z => s2 _ _ (by rw [upd_ne n1]; exact fr0 d o n1 n2 z)
  · refine iteF ?_
    -- if pool[1] > 0
    refine ⟨.ref p, rfl, p, _, 1, .int a, rfl, rfl, Evl.sq_of hp, rfl, _, _, rfl, rfl, _, rfl, ite2 (fun e3 => ?_) (fun e3 => ?_)⟩
    · -- the number's next digit
      refine ⟨.ref p, rfl, p, _, 1, .int a, rfl, rfl, Evl.sq_of hp, rfl, .inl ⟨_, rfl, _, rfl, _, _, rfl, rfl, m0, ?_⟩⟩
      refine ⟨.ref p, rfl, p, _, 1, .int a, rfl, rfl, Evl.sq_of hp, rfl, _, rfl, _, _, rfl, rfl, ⟨m0, m9⟩, .ref p, rfl, p, _, 1, 1, rfl, rfl, hp, rfl, ?_⟩
      refine ⟨_, rfl, ?_⟩
      exact k _ b xs _ _ (Int.emod_nonneg _ (by omega)) (Int.emod_lt_of_pos _ m0) upd_same (by rw [upd_ne ne.symm]; exact hl) fun d o n1 n2 z => by rw [upd_ne n1]; exact fr0 d o n1 n2 z
    · refine ⟨.ref p, rfl, p, _, 2, .int b, rfl, rfl, Evl.sq_of hp, rfl, _, _, rfl, rfl, .ref p, rfl, p, _, 2, 2, rfl, rfl, hp, rfl, ?_⟩
      refine ⟨.ref p, rfl, p, _, 3, .int c, rfl, rfl, Evl.sq_of upd_same, rfl, .ref p, rfl, p, _, 2, .int (b + 1), rfl, rfl, Evl.sq_of upd_same, rfl, ?_⟩
      refine call_int2 fun r H2 s2 => .inl ⟨r, rfl, _, rfl, _, _, rfl, rfl, m0, ?_⟩
      exact k a _ xs _ _ (Int.emod_nonneg _ (by omega)) (Int.emod_lt_of_pos _ m0) (s2 _ _ upd_same) (s2 _ _ (by rw [upd_ne ne.symm]; exact hl)) fun d o n1 n2 z => s2 _ _ (by rw [upd_ne n1]; exact fr0 d o n1 n2 z)
end
end K01
-- K01p
set_option Elab.async false
set_option linter.all false
set_option maxRecDepth 100000
set_option maxHeartbeats 4000000
open PySem L2
namespace K01
open Hw
section
variable {P : Program} {w : World} {K : PySem.W.Frag} {mg : Str → Option Value} {base : Heap} {C fI : Addr} {fdI : FuncData}
theorem f_l_pool {a_l_pool : Addr} {fd_l_pool : FuncData} (T : Tx K mg C fI fdI) (F : Fun K "_law_pool" "_law_pool" s_l_pool a_l_pool fd_l_pool) : FnOk P w K mg base (L2N.CX P w) 1 a_l_pool fd_l_pool ["_law_script"] (spPool K) := by
  obtain ⟨oc, od, kV, doc, pm, an, cdv, ct, osl, rfl, lk, hcd⟩ := F.ex
  refine fn_of lk hcd sc_l_pool (fun vs H Q E h => by obtain ⟨a, ns, rfl, _⟩ := h; rfl) fun A outer s H vs Q E hr h => ?_
  obtain ⟨a, ns, rfl, hs, k⟩ := h
  refine ⟨_, pss_cons (ps_set (i := 1) sc_l_pool.nd rfl (Or.inl rfl) pe_int)
    (pss_cons (ps_for .leaving rfl (pi_list (pv 0)) (pg_name (i := 2) sc_l_pool.nd rfl (Or.inl rfl))
      (pss_one (ps_set (i := 1) sc_l_pool.nd rfl (Or.inl rfl) (pe_op op_mod (pe_callTy call_int1 (by rfl) T.b_int (by decide +kernel) (pa_cons (pe_op op_add (pe_op op_add (pe_op op_mul (pv 1) pe_int) (pe_op op_mul (pv 2) pe_int)) pe_int) pa_nil)) pe_int))))
    (pss_one (ps_ret (pe_lst (pa_cons (pe_callTy call_list_of (by rfl) T.b_list PyProof.Rows.boot_list (pa_cons (pv 0) pa_nil)) (pa_cons pe_int (pa_cons pe_int (pa_cons (pv 1) (pa_cons (pe_callB call_len_seq (by rfl) T.b_len PySem.boot_len (pa_cons (pv 0) pa_nil)) pa_nil))))))))), ?_⟩
  refine ⟨.ref a, rfl, a, rfl, ⟨_, hs⟩, L2.for_list (fun i σ' H' => H' = H ∧ i ≤ ns.length ∧ ∃ (seed : Int) (c : Option V), σ' = [some (.ref a), some (.int seed), c]) ⟨rfl, Nat.zero_le _, 0, none, rfl⟩ (fun i σ' H' _ z => by rw [z.1]; exact hs) ?_ ?_⟩
  · rintro i x σ' H' hx ⟨rfl, hi, seed, c, rfl⟩
    rw [List.getElem?_map] at hx
    cases e : ns[i]? with
    | none => rw [e] at hx; cases hx
    | some n =>
      rw [e] at hx
      cases hx
      have hi' := (List.getElem?_eq_some_iff.mp e).1
      refine ⟨_, rfl, _, _, rfl, rfl, .inr (by decide), ?_⟩
      refine ⟨_, rfl, _, _, rfl, rfl, .inr (by decide), _, _, rfl, rfl, _, _, rfl, rfl, .inl ⟨_, rfl, _, _, rfl, rfl, (show (0 : Int) < 2147450033 by decide), ?_⟩⟩
      exact ⟨rfl, hi', _, _, rfl⟩
  · rintro σ' H' ⟨rfl, _, seed, c, rfl⟩
    refine ⟨.ref a, rfl, a, _, rfl, .inl hs, fun l hl => ?_⟩
    refine ⟨_, rfl, .ref a, rfl, a, _, rfl, .inl (Evl.ex_l (Evl.Ex.new hl) hs), ?_⟩
    refine ⟨line_le (show 5 ≤ 16777216 by decide), fun p hp => ?_⟩
    have ne : p ≠ l := fun z => by rw [z, upd_same] at hp; cases hp
    rw [upd_ne ne] at hp
    exact k p l seed _ hl hp ne
end
end K01
-- K01e
set_option Elab.async false
set_option linter.all false
set_option maxRecDepth 100000
set_option maxHeartbeats 4000000
open PySem L2
namespace K01
open Hw
theorem sq_i {a b : WS} {Ed : WEnds} {env : List Sl} (h : a { Ed with nx := b Ed } env) : wSeq a b Ed env := h
theorem at0 {a : PyData} {l : List PyData} : atI (a :: l) 0 = some a := by
  unfold atI ixN
  rw [if_pos (by omega), if_pos (by simp)]
  rfl
theorem at1 {a b : PyData} {l : List PyData} : atI (a :: b :: l) 1 = some b := by
  unfold atI ixN
  rw [if_pos (by omega), if_pos (by simp only [List.length_cons]; omega)]
  rfl
theorem at2 {a b c : PyData} {l : List PyData} : atI (a :: b :: c :: l) 2 = some c := by
  unfold atI ixN
  rw [if_pos (by omega), if_pos (by simp only [List.length_cons]; omega)]
  rfl
local macro_rules | `(tactic| walk_at "hw") => `(tactic| simp only [wNext, wAsg, wAsgB, wAsgC, wRet, wRetN, wExp, wIfS, wFor, wWhile, wSetI, wApp, wPar, wFz, wRaise2, wTry, wVar, wC, wOp, wUn, wCB, wTup, wLst, wTst, Hw.wNot, wAnd, wOr, vAnd, vOr, vNot, wIf, wIsi, wCall, wCallK, wLc, wSeqI, wRng1, wZip, wLstOf, wSl, oNone, oSome, wRev, wIxC, wLenC, wTupC, wXf, wYes, aNil, aCons, aPool, datas, slot, startE, endsOf, setsE, wipeE, noC, noC1, bName, bTup, fAdd, fSub, fMulA, fMod, fDiv, fPow, fLt, fLe, fGt, fGe, fEq, fNe, fNeg, fIx, fGcd, fLen, fAbs, fInt1, fAll, fTupOf, fInt, fInt0, perm, List.set, List.length_cons, List.length_nil, List.replicate, List.cons_append, List.nil_append, List.map_cons, List.map_nil, Nat.reduceAdd, Nat.reduceSub, Nat.zero_add, Nat.sub_self, Option.map, Option.some.injEq, List.filterMap_cons, List.filterMap_nil, List.getElem?_cons_zero, List.getElem?_cons_succ, at0, at1, at2, true_and, and_true, eq_self, true_implies, reduceCtorEq, false_implies, implies_true, Bool.not_true, Bool.not_false, exists_eq_left, exists_eq_left'])

theorem r_reduced : ∀ ss Qd Xd, c_reduced ss Qd Xd → w_reduced (endsOf Qd Xd) (startE 3 ss) := by
  rintro ss Qd Xd ⟨a, b, m, rfl, hb, hm, h0, h9, h⟩
  have R := red_ok (a := a) hb
  have l1 := log_lt (gcd_lt (a := a) hb hm) h0 h9
  have n1 := gcd_ne (a := a) hb
  unfold w_reduced wSeq
  walk_at "hw"
  simp only [decide_eq_true_eq, decide_eq_false_iff_not]
  refine ⟨fun hlt => ?_, fun hge => ?_⟩
  · obtain ⟨q1, q2, q3, q4⟩ := R.1 hlt
    exact ⟨⟨by omega, by rw [Int.natAbs_neg]; exact l1⟩, ⟨by omega, by rw [Int.natAbs_neg]; exact l1⟩, by decide, h _ q1 q2 q3 q4⟩
  · obtain ⟨q1, q2, q3, q4⟩ := R.2 hge
    exact ⟨⟨n1, l1⟩, ⟨n1, l1⟩, by decide, h _ q1 q2 q3 q4⟩
theorem r_need {C : Addr} : ∀ ss Qd Xd, c_need C ss Qd Xd → w_need C (endsOf Qd Xd) (startE 2 ss) := by
  rintro ss Qd Xd ⟨b, w, rfl, h1, h2⟩
  unfold w_need
  walk_at "hw"
  cases b
  · simp only [Bool.not_false, true_implies, reduceCtorEq, false_implies, and_true]; exact h2 rfl
  · simp only [Bool.not_true, true_implies, reduceCtorEq, false_implies, true_and]; exact h1 rfl
theorem r_is_integer : ∀ ss Qd Xd, c_is_integer ss Qd Xd → w_is_integer (endsOf Qd Xd) (startE 1 ss) := by
  rintro ss Qd Xd ⟨d, rfl, h⟩
  unfold w_is_integer
  walk_at "hw"
  cases d <;> simp [isInt, isBool, isI] at h ⊢ <;> exact h
theorem isQ_2 {x y : PyData} (h : isI x = false ∨ isI y = false) : isQ (.tuple [x, y]) = false := by
  cases x <;> cases y <;> simp [isI, isQ] at h ⊢
theorem isQ_n {ds : List PyData} (h : ds.length ≠ 2) : isQ (.tuple ds) = false := by
  match ds, h with
  | [], _ => simp [isQ]
  | [_], _ => simp [isQ]
  | [_, _], h => exact absurd rfl h
  | _ :: _ :: _ :: _, _ => simp [isQ]
theorem r_is_quotient : ∀ ss Qd Xd, c_is_quotient ss Qd Xd → w_is_quotient (endsOf Qd Xd) (startE 3 ss) := by
  rintro ss Qd Xd ⟨d, rfl, h⟩
  unfold w_is_quotient
  refine sq_i ?_
  cases d
  case tuple ds =>
    walk_at "hw"
    simp only [isTup, shp_int, eqv_int, Bool.not_true, reduceCtorEq, false_implies, true_implies, true_and, Bool.not_eq_true', decide_eq_false_iff_not, Bool.not_eq_false', decide_eq_true_eq]
    refine ⟨fun hl => ?_, fun hl => ?_⟩
    · rw [isQ_n (by omega)] at h; exact h
    · have l2 : ds.length = 2 := by omega
      match ds, l2 with
      | [x, y], _ =>
        refine sq_i ?_
        walk_at "hw"
        refine ⟨[x, y], rfl, ?_⟩
        walk_at "hw"
        refine sq_i ?_
        walk_at "hw"
        refine ⟨x, rfl, ?_⟩
        refine ⟨fun hx => ?_, fun hx => ⟨y, rfl, ?_⟩⟩
        · have hx : isI x = false := by simpa using hx
          rw [isQ_2 (.inl hx)] at h; exact h
        · refine ⟨fun hy => ?_, fun hy => ?_⟩
          · have hy : isI y = false := by simpa using hy
            rw [isQ_2 (.inr hy)] at h; exact h
          · obtain ⟨a, rfl⟩ : ∃ a, x = .int a := by cases x <;> simp [isI] at hx ⊢
            obtain ⟨b, rfl⟩ : ∃ b, y = .int b := by cases y <;> simp [isI] at hy ⊢
            simp only [shp_int, eqv_int, true_and, decide_eq_true_eq, decide_eq_false_iff_not]
            refine ⟨fun hb => ?_, fun hb => ?_⟩
            · have e : isQ (.tuple [.int a, .int b]) = decide (((Nat.gcd a.natAbs b.natAbs : Nat) : Int) = 1) := by
                rw [Bool.eq_iff_iff]
                simp only [isQ, Bool.and_eq_true, decide_eq_true_eq]
                omega
              rw [e] at h; exact h
            · have e : isQ (.tuple [.int a, .int b]) = false := by
                simp only [isQ, Bool.and_eq_false_iff, decide_eq_false_iff_not]
                exact .inl hb
              rw [e] at h; exact h
  all_goals (walk_at "hw"; simp only [isTup, Bool.not_false, true_implies, reduceCtorEq, false_implies, and_true]; exact h)
theorem all_map (ds : List PyData) : (ds.map isQ).all id = ds.all isQ := by
  rw [List.all_map]; rfl
theorem r_is_row : ∀ ss Qd Xd, c_is_row ss Qd Xd → w_is_row (endsOf Qd Xd) (startE 2 ss) := by
  rintro ss Qd Xd ⟨d, rfl, hl, h⟩
  unfold w_is_row
  cases d
  case tuple ds =>
    walk_at "hw"
    simp only [isTup, true_implies, reduceCtorEq, false_implies, and_true]
    refine ⟨hl, fun i acc => acc = ((ds.take i).map isQ).map PyData.bool, rfl, ?_, ?_⟩
    · rintro i d acc hd _ rfl
      refine ⟨d, rfl, ?_⟩
      dsimp only
      rw [List.take_add_one, hd]
      simp
    · rintro acc _ rfl
      refine ⟨ds.map isQ, by rw [List.take_length], ?_⟩
      rw [all_map]; exact h
  all_goals (walk_at "hw"; simp only [isTup, true_implies, reduceCtorEq, false_implies, true_and]; exact h)
theorem r_sum_of_two : ∀ ss Qd Xd, c_sum_of_two ss Qd Xd → w_sum_of_two (endsOf Qd Xd) (startE 2 ss) := by
  rintro ss Qd Xd ⟨q, r, m, n, rfl, hq, hr, bq, br, h0, h1, h9, h⟩
  unfold w_sum_of_two dq
  walk_at "hw"
  have hb : q.2 * r.2 ≠ 0 := Int.mul_ne_zero (by have := hq.1; omega) (by have := hr.1; omega)
  refine ⟨.inl (wide bq.1 br.2 h0 h1 (by omega)), .inl (wide br.1 bq.2 h1 h0 (by omega)), .inl (wide bq.2 br.2 h0 h1 (by omega)), ?_⟩
  refine ⟨_, _, m + n, rfl, hb, imul_bt bq.2 br.2, by omega, by omega, fun s hs e l1 l2 => ?_⟩
  exact h s hs e (Eqq.bt (u := stepU q r) l1 l2 (stepU_bt bq br))
theorem r_product_of_two : ∀ ss Qd Xd, c_product_of_two ss Qd Xd → w_product_of_two (endsOf Qd Xd) (startE 2 ss) := by
  rintro ss Qd Xd ⟨q, r, m, n, rfl, hq, hr, bq, br, h0, h1, h9, h⟩
  unfold w_product_of_two dq
  walk_at "hw"
  have hb : q.2 * r.2 ≠ 0 := Int.mul_ne_zero (by have := hq.1; omega) (by have := hr.1; omega)
  refine ⟨.inl (wide bq.1 br.1 h0 h1 (by omega)), .inl (wide bq.2 br.2 h0 h1 (by omega)), ?_⟩
  refine ⟨_, _, m + n, rfl, hb, imul_bt bq.2 br.2, by omega, by omega, fun s hs e l1 l2 => ?_⟩
  exact h s hs e (Eqq.bt (u := pr q r) l1 l2 (pr_bt bq br))
theorem r_lies_below : ∀ ss Qd Xd, c_lies_below ss Qd Xd → w_lies_below (endsOf Qd Xd) (startE 2 ss) := by
  rintro ss Qd Xd ⟨q, r, m, rfl, bq, br, h0, h9, h⟩
  unfold w_lies_below dq
  walk_at "hw"
  exact ⟨.inl (wide bq.1 br.2 h0 h0 (by omega)), .inl (wide br.1 bq.2 h0 h0 (by omega)), h⟩
theorem r_need_two {C : Addr} : ∀ ss Qd Xd, c_need_two C ss Qd Xd → w_need_two C (endsOf Qd Xd) (startE 2 ss) := by
  rintro ss Qd Xd ⟨d, e, rfl, h1, h2, h3⟩
  unfold w_need_two
  refine sq_i ?_
  walk_at "hw"
  refine ⟨d, rfl, isQ d, "one", rfl, fun hd => ⟨e, rfl, isQ e, "other", rfl, fun he => ?_, fun he => h2 hd he⟩, fun hd => h1 hd⟩
  obtain ⟨q, rfl, hq⟩ := isQ_inv hd
  obtain ⟨r, rfl, hr⟩ := isQ_inv he
  exact h3 q r rfl rfl hq hr
theorem two_of {C : Addr} {P : Qo → Qo → DQ → Prop} {d e : PyData} {Q Q' : DQ} {X : XQ} (h : cTwo C P [.val d, .val e] Q X) (hn : ∀ q r, d = dq q → e = dq r → IsQuo q → IsQuo r → P q r Q → Q' .none) : c_need_two C [.val d, .val e] Q' X := by
  obtain ⟨d', e', he, h1, h2, h3⟩ := h
  cases he
  exact ⟨d, e, rfl, h1, h2, fun q r hq hr iq ir => hn q r hq hr iq ir (h3 q r hq hr iq ir)⟩
theorem r_plus {C : Addr} : ∀ ss Qd Xd, c_plus C ss Qd Xd → w_plus C (endsOf Qd Xd) (startE 2 ss) := by
  intro ss Qd Xd h
  obtain ⟨d, e, rfl, _⟩ := id h
  unfold w_plus
  refine sq_i ?_
  walk_at "hw"
  refine two_of h fun q r hq hr iq ir ⟨m, n, bq, br, m0, n0, l, k⟩ => ⟨q, r, m, n, by rw [hq, hr], iq, ir, bq, br, m0, n0, l, k⟩
theorem r_times {C : Addr} : ∀ ss Qd Xd, c_times C ss Qd Xd → w_times C (endsOf Qd Xd) (startE 2 ss) := by
  intro ss Qd Xd h
  obtain ⟨d, e, rfl, _⟩ := id h
  unfold w_times
  refine sq_i ?_
  walk_at "hw"
  refine two_of h fun q r hq hr iq ir ⟨m, n, bq, br, m0, n0, l, k⟩ => ⟨q, r, m, n, by rw [hq, hr], iq, ir, bq, br, m0, n0, l, k⟩
theorem r_is_less {C : Addr} : ∀ ss Qd Xd, c_is_less C ss Qd Xd → w_is_less C (endsOf Qd Xd) (startE 2 ss) := by
  intro ss Qd Xd h
  obtain ⟨d, e, rfl, _⟩ := id h
  unfold w_is_less
  refine sq_i ?_
  walk_at "hw"
  refine two_of h fun q r hq hr iq ir ⟨m, bq, br, m0, l, k⟩ => ⟨q, r, m, by rw [hq, hr], bq, br, m0, l, k⟩
theorem r_sum_of_row : ∀ ss Qd Xd, c_sum_of_row ss Qd Xd → w_sum_of_row (endsOf Qd Xd) (startE 3 ss) := by
  rintro ss Qd Xd ⟨d, qs, rfl, hd, iq, n, n0, bq, h9, h⟩
  unfold w_sum_of_row
  refine sq_i ?_
  walk_at "hw"
  refine ⟨by decide, sq_i ?_⟩
  rcases hd with rfl | rfl
  all_goals
    walk_at "hw"
    refine ⟨fun i env => ∃ (D : PyData) (f : Qo) (s : Sl), env = [.val D, .val (dq f), s] ∧ IsQuo f ∧ Eqq f (sumU (qs.take i)) ∧ Bt (1 + i * (n + 1)) f, ⟨_, (0, 1), .un, rfl, ⟨by decide, by decide⟩, rfl, ?_⟩, ?_, ?_⟩
    · rw [Nat.zero_mul]; exact ⟨by decide, by decide⟩
    · rintro i e env' he ⟨D, f, s, rfl, hf, hv, hb⟩
      rw [List.getElem?_map] at he
      cases hq : qs[i]? with
      | none => rw [hq] at he; cases he
      | some q =>
        rw [hq] at he
        cases he
        have mq : q ∈ qs := List.mem_of_getElem? hq
        walk_at "hw"
        have l : (i + 1) * (n + 1) ≤ qs.length * (n + 1) := Nat.mul_le_mul_right _ ((List.getElem?_eq_some_iff.mp hq).1)
        have l' : (i + 1) * (n + 1) = i * (n + 1) + (n + 1) := Nat.succ_mul _ _
        refine ⟨f, q, 1 + i * (n + 1), n, rfl, hf, iq q mq, hb, bq q mq, by omega, n0, by omega, fun g hg e2 b2 => ?_⟩
        refine ⟨D, g, .val (dq q), rfl, hg, ?_, b2.mono (by omega)⟩
        rw [List.take_add_one, hq]
        unfold sumU
        rw [Option.toList_some, List.foldl_append]
        exact eqq_step (p := q) (P := q) (by have := hf.1; omega) (by have := (iq q mq).1; omega) hv (Int.mul_comm _ _) e2
    · rintro env' ⟨D, f, s, rfl, hf, hv, hb⟩
      walk_at "hw"
      rw [List.length_map] at hv hb
      rw [List.take_length] at hv
      exact h f hf hv hb
end K01
-- K01f
set_option Elab.async false
set_option linter.all false
set_option maxRecDepth 100000
set_option maxHeartbeats 4000000
open PySem L2
namespace K01
open Hw
local macro_rules | `(tactic| walk_at "hw") => `(tactic| simp only [wNext, wAsg, wAsgB, wAsgC, wRet, wRetN, wExp, wIfS, wFor, wWhile, wSetI, wApp, wPar, wFz, wRaise2, wTry, wVar, wC, wOp, wUn, wCB, wTup, wLst, wTst, Hw.wNot, wAnd, wOr, vAnd, vOr, vNot, wIf, wIsi, wCall, wCallK, wLc, wSeqI, wRng1, wZip, wLstOf, wSl, oNone, oSome, wRev, wIxC, wLenC, wTupC, wXf, wYes, aNil, aCons, aPool, datas, slot, startE, endsOf, setsE, wipeE, noC, noC1, bName, bTup, fAdd, fSub, fMulA, fMod, fDiv, fPow, fLt, fLe, fGt, fGe, fEq, fNe, fNeg, fIx, fGcd, fLen, fAbs, fInt1, fAll, fTupOf, fInt, fInt0, perm, List.set, List.length_cons, List.length_nil, List.replicate, List.cons_append, List.nil_append, List.map_cons, List.map_nil, Nat.reduceAdd, Nat.reduceSub, Nat.zero_add, Nat.sub_self, Option.map, Option.some.injEq, List.filterMap_cons, List.filterMap_nil, List.getElem?_cons_zero, List.getElem?_cons_succ, at0, at1, at2, true_and, and_true, eq_self, true_implies, reduceCtorEq, false_implies, implies_true, Bool.not_true, Bool.not_false, exists_eq_left, exists_eq_left'])

theorem lt_irr (q : Qo) : ¬ lt q q := by unfold lt; omega
theorem lt_trans {x q f : Qo} (hx : 1 ≤ x.2) (hq : 1 ≤ q.2) (hf : 1 ≤ f.2) (h1 : lt x q) (h2 : lt q f) : lt x f := by
  unfold lt at *
  have a1 : x.1 * q.2 * f.2 < q.1 * x.2 * f.2 := Int.mul_lt_mul_of_pos_right h1 (by omega)
  have a2 : q.1 * f.2 * x.2 < f.1 * q.2 * x.2 := Int.mul_lt_mul_of_pos_right h2 (by omega)
  have a3 : (x.1 * f.2) * q.2 < (f.1 * x.2) * q.2 := by
    have e1 : x.1 * q.2 * f.2 = (x.1 * f.2) * q.2 := by grind
    have e2 : q.1 * x.2 * f.2 = q.1 * f.2 * x.2 := by grind
    have e3 : f.1 * q.2 * x.2 = (f.1 * x.2) * q.2 := by grind
    omega
  exact Int.lt_of_mul_lt_mul_right a3 (by omega)
theorem gt_trans {x q f : Qo} (hx : 1 ≤ x.2) (hq : 1 ≤ q.2) (hf : 1 ≤ f.2) (h1 : gt x q) (h2 : gt q f) : gt x f := lt_trans hf hq hx h2 h1
theorem r_total {C : Addr} : ∀ ss Qd Xd, c_total C ss Qd Xd → w_total C (endsOf Qd Xd) (startE 1 ss) := by
  rintro ss Qd Xd ⟨d, rfl, hl, h1, h2⟩
  unfold w_total
  refine sq_i ?_
  walk_at "hw"
  refine ⟨d, rfl, hl, isRow d, "row", rfl, fun hr => ?_, fun hr => h1 hr⟩
  obtain ⟨qs, rfl, iq⟩ := isRow_inv hr
  exact ⟨_, qs, rfl, .inr rfl, h2 qs rfl iq⟩
theorem zipD_get {qs rs : List Qo} {i : Nat} {d : PyData} (h : (zipD (qs.map dq) (rs.map dq))[i]? = some d) : ∃ q r, qs[i]? = some q ∧ rs[i]? = some r ∧ d = .tuple [dq q, dq r] := by
  unfold zipD at h
  rw [List.getElem?_map] at h
  cases e : ((qs.map dq).zip (rs.map dq))[i]? with
  | none => rw [e] at h; cases h
  | some p =>
    rw [e] at h
    cases h
    obtain ⟨h1, h2⟩ := List.getElem?_zip_eq_some.mp e
    rw [List.getElem?_map] at h1 h2
    cases e1 : qs[i]? with
    | none => rw [e1] at h1; cases h1
    | some q =>
      cases e2 : rs[i]? with
      | none => rw [e2] at h2; cases h2
      | some r =>
        rw [e1] at h1
        rw [e2] at h2
        have h1 : dq q = p.1 := Option.some.inj h1
        have h2 : dq r = p.2 := Option.some.inj h2
        exact ⟨q, r, rfl, rfl, by rw [h1, h2]⟩
theorem eqq_trans {s u v : Qo} (hu : u.2 ≠ 0) (h1 : Eqq s u) (h2 : Eqq u v) : Eqq s v := by
  unfold Eqq at *
  have z : u.2 * (s.1 * v.2) = u.2 * (s.2 * v.1) := by grind
  exact Int.eq_of_mul_eq_mul_left hu z
theorem eqq_fold : ∀ {ps PP : List Qo} {f U : Qo}, ps.length = PP.length → (∀ (i : Nat) (p P : Qo), ps[i]? = some p → PP[i]? = some P → Eqq p P ∧ p.2 ≠ 0) → f.2 ≠ 0 → Eqq f U → Eqq (ps.foldl stepU f) (PP.foldl stepU U)
  | [], [], f, U, _, _, _, h => h
  | p :: ps, P :: PP, f, U, l, hp, hf, h => by
    obtain ⟨e, n⟩ := hp 0 p P rfl rfl
    exact eqq_fold (ps := ps) (PP := PP) (by simpa using l) (fun i q Q' h1 h2 => hp (i + 1) q Q' (by simpa using h1) (by simpa using h2)) (Int.mul_ne_zero hf n) (eqq_step hf n h e (Int.mul_comm _ _))
  | [], _ :: _, _, _, l, _, _, _ => by simp at l
  | _ :: _, [], _, _, l, _, _, _ => by simp at l
theorem r_weighed {C : Addr} : ∀ ss Qd Xd, c_weighed C ss Qd Xd → w_weighed C (endsOf Qd Xd) (startE 4 ss) := by
  rintro ss Qd Xd ⟨d, e, rfl, hld, hle, h1, h2, h3⟩
  unfold w_weighed
  refine sq_i ?_
  walk_at "hw"
  refine ⟨d, rfl, hld, isRow d, "row", rfl, fun hr => ?_, fun hr => h1 hr⟩
  obtain ⟨qs, rfl, iq⟩ := isRow_inv hr
  refine sq_i ?_
  walk_at "hw"
  refine ⟨e, rfl, hle, fun ht => ?_, fun hf => ⟨false, "others", rfl, fun z => Bool.noConfusion z, fun _ => h2 hr (.inl hf)⟩⟩
  obtain ⟨rs, rfl, ir⟩ := isRow_inv ht
  simp only [shp_int, eqv_int, true_and]
  refine ⟨_, "others", rfl, fun hz => ?_, fun hz => h2 hr (.inr ?_)⟩
  · simp only [decide_eq_true_eq, List.length_map] at hz
    have hz : rs.length = qs.length := by omega
    obtain ⟨n, n0, bq, br, h9, h⟩ := h3 qs rs rfl rfl hz.symm iq ir
    have lz : (zipD (qs.map dq) (rs.map dq)).length = qs.length := by rw [zipD_len]; simp [hz]
    have hl : qs.length ≤ 10000000 := by
      have z : (qs.map dq).length ≤ 10000000 := hld
      rw [List.length_map] at z; exact z
    refine ⟨by rw [lz]; exact hl, fun i acc => ∃ ps : List Qo, acc = ps.map dq ∧ ps.length = i ∧ ∀ k p, ps[k]? = some p → ∃ q r, qs[k]? = some q ∧ rs[k]? = some r ∧ IsQuo p ∧ Eqq p (pr q r) ∧ Bt (2 * n) p, ⟨([] : List Qo), rfl, rfl, fun k p z => by rw [List.getElem?_nil] at z; cases z⟩, ?_, ?_⟩
    · rintro i d acc hd _ ⟨ps, rfl, lp, hp⟩
      obtain ⟨q, r, hq, hr', rfl⟩ := zipD_get hd
      have mq := List.mem_of_getElem? hq
      have mr := List.mem_of_getElem? hr'
      refine ⟨[dq q, dq r], rfl, ?_⟩
      walk_at "hw"
      refine ⟨q, r, n, n, rfl, iq q mq, ir r mr, bq q mq, br r mr, n0, n0, ?_, fun s hs es bs => ⟨ps ++ [s], by simp, by simp [lp], fun k p hk => ?_⟩⟩
      · have : 1 * (2 * n + 1) ≤ qs.length * (2 * n + 1) := Nat.mul_le_mul_right _ (by have := (List.getElem?_eq_some_iff.mp hq).1; omega)
        omega
      · by_cases hk2 : k < ps.length
        · rw [List.getElem?_append_left hk2] at hk
          exact hp k p hk
        · rw [List.getElem?_append_right (by omega)] at hk
          have : k = i := by
            have := (List.getElem?_eq_some_iff.mp hk).1
            simp at this; omega
          subst this
          rw [lp, Nat.sub_self] at hk
          simp at hk
          subst hk
          exact ⟨q, r, hq, hr', hs, es, bs.mono (by omega)⟩
    · rintro acc _ ⟨ps, rfl, lp, hp⟩
      rw [lz] at lp
      have hmem : ∀ p ∈ ps, ∃ (q r : Qo), IsQuo p ∧ Eqq p (pr q r) ∧ Bt (2 * n) p := fun p hpm => by
        obtain ⟨k, hk⟩ := List.getElem?_of_mem hpm
        obtain ⟨q, r, _, _, z⟩ := hp k p hk
        exact ⟨q, r, z⟩
      refine ⟨_, ps, rfl, .inl rfl, fun p hpm => (hmem p hpm).choose_spec.choose_spec.1, 2 * n, by omega, fun p hpm => (hmem p hpm).choose_spec.choose_spec.2.2, by rw [lp]; exact h9, fun s hs es bs => ?_⟩
      rw [lp] at bs
      refine h s hs (eqq_trans (Int.ne_of_gt (sumU_pos (by decide) fun q hq => ?_)) es (eqq_fold (by simp [lp, hz]) (fun i p P h1 h2 => ?_) (by decide) rfl)) bs
      · obtain ⟨_, _, z, _⟩ := hmem q hq
        have := z.1; omega
      · obtain ⟨q, r, hq, hr', z1, z2, _⟩ := hp i p h1
        rw [List.getElem?_zipWith, hq, hr'] at h2
        cases h2
        exact ⟨z2, by have := z1.1; omega⟩
  · simp only [decide_eq_false_iff_not] at hz
    show ¬ (rs.map dq).length = (qs.map dq).length
    omega

theorem r_least_of {C : Addr} : ∀ ss Qd Xd, c_least_of C ss Qd Xd → w_least_of C (endsOf Qd Xd) (startE 3 ss) := by
  rintro ss Qd Xd ⟨d, rfl, hl, h1, h2⟩
  unfold w_least_of
  refine sq_i ?_
  walk_at "hw"
  refine ⟨d, rfl, hl, fun ht => ?_, fun hf => ⟨false, "row", rfl, fun z => (Bool.noConfusion z), fun _ => h1 (.inl hf)⟩⟩
  obtain ⟨qs, rfl, iq⟩ := isRow_inv ht
  walk_at "hw"
  refine ⟨_, "row", rfl, fun hz => ?_, fun hz => h1 (.inr ?_)⟩
  · simp only [decide_eq_true_eq] at hz
    obtain ⟨n, n0, n9, bq, h⟩ := h2 qs rfl (fun z => by rw [z] at hz; simp at hz) iq
    match qs, hz with
    | q0 :: qs', _ =>
      refine sq_i ?_
      walk_at "hw"
      refine sq_i ?_
      walk_at "hw"
      refine ⟨fun i env => ∃ (D : PyData) (f : Qo) (s : Sl), env = [.val D, .val (dq f), s] ∧ f ∈ q0 :: qs' ∧ ∀ x ∈ (q0 :: qs').take i, ¬ lt x f, ⟨_, q0, .un, rfl, List.mem_cons_self, fun x hx => by simp at hx⟩, ?_, ?_⟩
      · rintro i e env' he ⟨D, f, s, rfl, hf, hv⟩
        rw [← List.map_cons, List.getElem?_map] at he
        cases hq : (q0 :: qs')[i]? with
        | none => rw [hq] at he; cases he
        | some q =>
          rw [hq] at he
          cases he
          have mq : q ∈ q0 :: qs' := List.mem_of_getElem? hq
          walk_at "hw"
          refine ⟨q, f, n, rfl, bq _ mq, bq _ hf, n0, n9, ?_⟩
          simp only [decide_eq_true_eq, decide_eq_false_iff_not]
          refine ⟨fun hlt => ⟨D, q, .val (dq q), rfl, mq, fun x hx => ?_⟩, fun hge => ⟨D, f, .val (dq q), rfl, hf, fun x hx => ?_⟩⟩
          · rw [List.take_add_one, hq, Option.toList_some] at hx
            rcases List.mem_append.mp hx with hx | hx
            · exact fun z => hv x hx (lt_trans (iq x (List.mem_of_mem_take hx)).1 (iq q mq).1 (iq f hf).1 z hlt)
            · simp only [List.mem_singleton] at hx
              rw [hx]; exact lt_irr q
          · rw [List.take_add_one, hq, Option.toList_some] at hx
            rcases List.mem_append.mp hx with hx | hx
            · exact hv x hx
            · simp only [List.mem_singleton] at hx
              rw [hx]; exact hge
      · rintro env' ⟨D, f, s, rfl, hf, hv⟩
        walk_at "hw"
        refine h f hf fun q hq => hv q ?_
        have el : (qs'.map dq).length + 1 = (q0 :: qs').length := by simp
        rw [el, List.take_length]
        exact hq
  · simp only [decide_eq_false_iff_not] at hz
    show (qs.map dq).length = 0
    omega

theorem r_greatest_of {C : Addr} : ∀ ss Qd Xd, c_greatest_of C ss Qd Xd → w_greatest_of C (endsOf Qd Xd) (startE 3 ss) := by
  rintro ss Qd Xd ⟨d, rfl, hl, h1, h2⟩
  unfold w_greatest_of
  refine sq_i ?_
  walk_at "hw"
  refine ⟨d, rfl, hl, fun ht => ?_, fun hf => ⟨false, "row", rfl, fun z => (Bool.noConfusion z), fun _ => h1 (.inl hf)⟩⟩
  obtain ⟨qs, rfl, iq⟩ := isRow_inv ht
  walk_at "hw"
  refine ⟨_, "row", rfl, fun hz => ?_, fun hz => h1 (.inr ?_)⟩
  · simp only [decide_eq_true_eq] at hz
    obtain ⟨n, n0, n9, bq, h⟩ := h2 qs rfl (fun z => by rw [z] at hz; simp at hz) iq
    match qs, hz with
    | q0 :: qs', _ =>
      refine sq_i ?_
      walk_at "hw"
      refine sq_i ?_
      walk_at "hw"
      refine ⟨fun i env => ∃ (D : PyData) (f : Qo) (s : Sl), env = [.val D, .val (dq f), s] ∧ f ∈ q0 :: qs' ∧ ∀ x ∈ (q0 :: qs').take i, ¬ gt x f, ⟨_, q0, .un, rfl, List.mem_cons_self, fun x hx => by simp at hx⟩, ?_, ?_⟩
      · rintro i e env' he ⟨D, f, s, rfl, hf, hv⟩
        rw [← List.map_cons, List.getElem?_map] at he
        cases hq : (q0 :: qs')[i]? with
        | none => rw [hq] at he; cases he
        | some q =>
          rw [hq] at he
          cases he
          have mq : q ∈ q0 :: qs' := List.mem_of_getElem? hq
          walk_at "hw"
          refine ⟨f, q, n, rfl, bq _ hf, bq _ mq, n0, n9, ?_⟩
          simp only [decide_eq_true_eq, decide_eq_false_iff_not]
          refine ⟨fun hlt => ⟨D, q, .val (dq q), rfl, mq, fun x hx => ?_⟩, fun hge => ⟨D, f, .val (dq q), rfl, hf, fun x hx => ?_⟩⟩
          · rw [List.take_add_one, hq, Option.toList_some] at hx
            rcases List.mem_append.mp hx with hx | hx
            · exact fun z => hv x hx (gt_trans (iq x (List.mem_of_mem_take hx)).1 (iq q mq).1 (iq f hf).1 z hlt)
            · simp only [List.mem_singleton] at hx
              rw [hx]; exact lt_irr q
          · rw [List.take_add_one, hq, Option.toList_some] at hx
            rcases List.mem_append.mp hx with hx | hx
            · exact hv x hx
            · simp only [List.mem_singleton] at hx
              rw [hx]; exact hge
      · rintro env' ⟨D, f, s, rfl, hf, hv⟩
        walk_at "hw"
        refine h f hf fun q hq => hv q ?_
        have el : (qs'.map dq).length + 1 = (q0 :: qs').length := by simp
        rw [el, List.take_length]
        exact hq
  · simp only [decide_eq_false_iff_not] at hz
    show (qs.map dq).length = 0
    omega

end K01
-- K01g
set_option Elab.async false
set_option linter.all false
set_option maxRecDepth 100000
set_option maxHeartbeats 4000000
open PySem L2
namespace K01
open Hw
local macro_rules | `(tactic| walk_at "hw") => `(tactic| simp only [wNext, wAsg, wAsgB, wAsgC, wRet, wRetN, wExp, wIfS, wFor, wWhile, wSetI, wApp, wPar, wFz, wRaise2, wTry, wVar, wC, wOp, wUn, wCB, wTup, wLst, wTst, Hw.wNot, wAnd, wOr, vAnd, vOr, vNot, wIf, wIsi, wCall, wCallK, wLc, wSeqI, wRng1, wZip, wLstOf, wSl, oNone, oSome, wRev, wIxC, wLenC, wTupC, wXf, wYes, aNil, aCons, aPool, datas, slot, startE, endsOf, setsE, wipeE, noC, noC1, bName, bTup, fAdd, fSub, fMulA, fMod, fDiv, fPow, fLt, fLe, fGt, fGe, fEq, fNe, fNeg, fIx, fGcd, fLen, fAbs, fInt1, fAll, fTupOf, fInt, fInt0, perm, List.set, List.length_cons, List.length_nil, List.replicate, List.cons_append, List.nil_append, List.map_cons, List.map_nil, Nat.reduceAdd, Nat.reduceSub, Nat.zero_add, Nat.sub_self, Option.map, Option.some.injEq, List.filterMap_cons, List.filterMap_nil, List.getElem?_cons_zero, List.getElem?_cons_succ, at0, at1, at2, true_and, and_true, eq_self, true_implies, reduceCtorEq, false_implies, implies_true, Bool.not_true, Bool.not_false, exists_eq_left, exists_eq_left'])

theorem r_l_whole : ∀ ss Qd Xd, c_l_whole ss Qd Xd → w_l_whole (endsOf Qd Xd) (startE 1 ss) := by
  rintro ss Qd Xd ⟨d, rfl, h⟩
  unfold w_l_whole
  walk_at "hw"
  cases d <;> simp [isInt, isBool, isI] at h ⊢ <;> exact h
theorem small_r {i j : Int} (h : -(2 ^ 64) < j ∧ j < 2 ^ 64) : i.natAbs.log2 + j.natAbs.log2 < 1000000 ∨ -(2 ^ 64) < i ∧ i < 2 ^ 64 ∨ -(2 ^ 64) < j ∧ j < 2 ^ 64 := .inr (.inr h)
theorem small_l {i j : Int} (h : -(2 ^ 64) < i ∧ i < 2 ^ 64) : i.natAbs.log2 + j.natAbs.log2 < 1000000 ∨ -(2 ^ 64) < i ∧ i < 2 ^ 64 ∨ -(2 ^ 64) < j ∧ j < 2 ^ 64 := .inr (.inl h)
theorem mod_small {x m : Int} (h0 : 0 < m) (h : m < 2 ^ 64) : -(2 ^ 64) < x % m ∧ x % m < 2 ^ 64 := by
  have := Int.emod_nonneg x (show m ≠ 0 by omega)
  have := Int.emod_lt_of_pos x h0
  omega
theorem r_l_mixed : ∀ ss Qd Xd, c_l_mixed ss Qd Xd → w_l_mixed (endsOf Qd Xd) (startE 5 ss) := by
  rintro ss Qd Xd ⟨a, b, rfl, h⟩
  unfold w_l_mixed
  refine sq_i ?_
  walk_at "hw"
  refine ⟨small_r (by decide), small_r (by decide), by decide, sq_i ?_⟩
  walk_at "hw"
  refine ⟨small_l (mod_small (by decide) (by decide)), small_r (by decide), by decide, sq_i ?_⟩
  walk_at "hw"
  refine ⟨small_l (mod_small (by decide) (by decide)), ⟨by decide, by decide +kernel⟩, small_r (by decide), by decide, ?_⟩
  exact ⟨⟨by decide, by decide +kernel⟩, h _⟩
theorem gcd_step {a b : Int} (ha : 0 ≤ a) (hb : 0 < b) : Nat.gcd b.natAbs (a % b).natAbs = Nat.gcd a.natAbs b.natAbs := by
  have e : (a % b).natAbs = a.natAbs % b.natAbs := by
    obtain ⟨x, rfl⟩ := Int.eq_ofNat_of_zero_le ha
    obtain ⟨y, rfl⟩ := Int.eq_ofNat_of_zero_le (Int.le_of_lt hb)
    rw [← Int.natCast_emod]
    rfl
  rw [e, Nat.gcd_comm a.natAbs, Nat.gcd_rec b.natAbs a.natAbs, Nat.gcd_comm]
theorem r_l_common : ∀ ss Qd Xd, c_l_common ss Qd Xd → w_l_common (endsOf Qd Xd) (startE 2 ss) := by
  rintro ss Qd Xd ⟨a, b, rfl, ha, hb, h⟩
  unfold w_l_common
  refine sq_i ?_
  walk_at "hw"
  refine ⟨fun m env => ∃ x y : Int, env = [.val (.int x), .val (.int y)] ∧ 0 ≤ x ∧ 0 ≤ y ∧ Nat.gcd x.natAbs y.natAbs = Nat.gcd a.natAbs b.natAbs ∧ m = y.toNat, ⟨b.toNat, a, b, rfl, ha, hb, rfl, rfl⟩, ?_⟩
  rintro m env ⟨x, y, rfl, hx, hy, hg, rfl⟩
  walk_at "hw"
  simp only [shp_int, eqv_int, true_and, Bool.not_eq_true', decide_eq_false_iff_not, Bool.not_eq_false', decide_eq_true_eq]
  refine ⟨fun hne => ⟨by omega, (x % y).toNat, ?_, y, x % y, rfl, hy, Int.emod_nonneg _ hne, ?_, rfl⟩, fun he => ?_⟩
  · have := Int.emod_lt_of_pos x (show 0 < y by omega)
    have := Int.emod_nonneg x hne
    omega
  · rw [gcd_step hx (by omega), hg]
  · have e : x = ((Nat.gcd a.natAbs b.natAbs : Nat) : Int) := by
      rw [← hg, he, Int.natAbs_zero, Nat.gcd_zero_right]
      omega
    rw [e]; exact h
theorem r_l_low : ∀ ss Qd Xd, c_l_low ss Qd Xd → w_l_low (endsOf Qd Xd) (startE 3 ss) := by
  rintro ss Qd Xd ⟨a, b, m, rfl, hb, hm, h0, h9, h⟩
  have R := (red_ok (a := a) (b := b) (by omega)).2 (by omega)
  have l1 := log_lt (gcd_lt (a := a) (b := b) (by omega) hm) h0 h9
  have n1 := gcd_ne (a := a) (b := b) (by omega)
  unfold w_l_low
  refine sq_i ?_
  walk_at "hw"
  refine ⟨_, _, rfl, by omega, by omega, ?_⟩
  walk_at "hw"
  rw [Int.natAbs_natCast]
  exact ⟨⟨n1, l1⟩, ⟨n1, l1⟩, by decide, h _ R.1 R.2.1 R.2.2.1 R.2.2.2⟩
theorem r_l_quotient : ∀ ss Qd Xd, c_l_quotient ss Qd Xd → w_l_quotient (endsOf Qd Xd) (startE 1 ss) := by
  rintro ss Qd Xd ⟨q, rfl, hq, h⟩
  have h1 : ¬ q.2 < 1 := by have := hq.1; omega
  unfold w_l_quotient dq
  refine sq_i ?_
  walk_at "hw"
  simp only [isTup, shp_int, eqv_int, Bool.not_true, reduceCtorEq, false_implies, true_implies, true_and, decide_true, and_true]
  refine ⟨fun z => by simp at z, fun _ => sq_i ?_⟩
  walk_at "hw"
  refine ⟨_, rfl, ?_⟩
  simp only [isI, Bool.not_true, reduceCtorEq, false_implies, true_implies, true_and]
  refine ⟨_, rfl, ?_⟩
  simp only [isI, Bool.not_true, reduceCtorEq, false_implies, true_implies, true_and]
  simp only [decide_eq_false h1, reduceCtorEq, false_implies, true_implies, true_and]
  refine ⟨_, _, rfl, by omega, by have := hq.1; omega, ?_⟩
  rw [Int.natAbs_natCast, hq.2]
  simp only [shp_int, eqv_int, true_and]
  exact h
theorem r_l_stands : ∀ ss Qd Xd, c_l_stands ss Qd Xd → w_l_stands (endsOf Qd Xd) (startE 3 ss) := by
  rintro ss Qd Xd ⟨q, t, b, n, rfl, hq, bq, bt, n0, n9, h⟩
  unfold w_l_stands
  walk_at "hw"
  refine ⟨q, rfl, hq, ⟨fun _ => ?_, fun z => Bool.noConfusion z⟩⟩
  unfold dq
  walk_at "hw"
  simp only [shp_int, eqv_int, true_and]
  exact ⟨.inl (wide bq.1 bt.2 n0 n0 (by omega)), .inl (wide bq.2 bt.1 n0 n0 (by omega)), h⟩
end K01
-- K01h
set_option Elab.async false
set_option linter.all false
set_option maxRecDepth 100000
set_option maxHeartbeats 4000000
open PySem L2
namespace K01
open Hw
local macro_rules | `(tactic| walk_at "hw") => `(tactic| simp only [wNext, wAsg, wAsgB, wAsgC, wRet, wRetN, wExp, wIfS, wFor, wWhile, wSetI, wApp, wPar, wFz, wRaise2, wTry, wVar, wC, wOp, wUn, wCB, wTup, wLst, wTst, Hw.wNot, wAnd, wOr, vAnd, vOr, vNot, wIf, wIsi, wCall, wCallK, wLc, wSeqI, wRng1, wZip, wLstOf, wSl, oNone, oSome, wRev, wIxC, wLenC, wTupC, wXf, wYes, aNil, aCons, aPool, datas, slot, startE, endsOf, setsE, wipeE, noC, noC1, bName, bTup, fAdd, fSub, fMulA, fMod, fDiv, fPow, fLt, fLe, fGt, fGe, fEq, fNe, fNeg, fIx, fGcd, fLen, fAbs, fInt1, fAll, fTupOf, fInt, fInt0, perm, List.set, List.length_cons, List.length_nil, List.replicate, List.cons_append, List.nil_append, List.map_cons, List.map_nil, Nat.reduceAdd, Nat.reduceSub, Nat.zero_add, Nat.sub_self, Option.map, Option.some.injEq, List.filterMap_cons, List.filterMap_nil, List.getElem?_cons_zero, List.getElem?_cons_succ, at0, at1, at2, true_and, and_true, eq_self, true_implies, reduceCtorEq, false_implies, implies_true, Bool.not_true, Bool.not_false, exists_eq_left, exists_eq_left'])

theorem quo_small {a b : Int} (h1 : 1 ≤ b) (hg : Nat.gcd a.natAbs b.natAbs = 1) : IsQuo (a, b) := ⟨h1, hg⟩
theorem tk_i {Q : DQ} {X : XQ} {m : Int} (h0 : 0 < m) (h1 : m < 1073741824) (h : ∀ r : Int, 0 ≤ r → r < m → Q (.int r)) : c_l_take [.pool, .val (.int m)] Q X := ⟨m, rfl, h0, h1, h⟩
theorem ixN_ok {n : Nat} {r : Int} (h0 : 0 ≤ r) (h1 : r < n) : ixN n r = some r.toNat := by
  unfold ixN
  rw [if_pos h0, if_pos h1]
theorem at_i {ds : List PyData} {r : Int} {Q : DQ} (h0 : 0 ≤ r) (h1 : r < ds.length) (h : ∀ d ∈ ds, Q d) : ∃ d, atI ds r = some d ∧ Q d := by
  have hl : r.toNat < ds.length := by omega
  refine ⟨ds[r.toNat], ?_, h _ (List.getElem_mem hl)⟩
  unfold atI
  rw [ixN_ok h0 h1]
  exact List.getElem?_eq_getElem hl
theorem low_i {a b : Int} {n : Nat} {Q : DQ} {X : XQ} (hb : 1 ≤ b) (bt : Bt n (a, b)) (h0 : 0 < n) (h9 : n ≤ 9000) (h : ∀ s, IsQuo s → Bt n s → Q (dq s)) : c_l_low [.val (.int a), .val (.int b)] Q X :=
  ⟨a, b, n, rfl, hb, bt.2, h0, h9, fun s hs _ h1 h2 => h s hs (Eqq.bt h1 h2 bt)⟩
theorem r_l_draw : ∀ ss Qd Xd, c_l_draw ss Qd Xd → w_l_draw (endsOf Qd Xd) (startE 6 ss) := by
  rintro ss Qd Xd ⟨k, rfl, hk, h⟩
  unfold w_l_draw
  refine sq_i ?_
  rcases hk with rfl | rfl | rfl
  · walk_at "hw"
    simp only [shp_int, eqv_int, true_and]
    refine ⟨fun z => by simp at z, fun _ => sq_i ?_⟩
    walk_at "hw"
    simp only [shp_int, eqv_int, true_and]
    refine ⟨fun z => by simp at z, fun _ => sq_i ?_⟩
    walk_at "hw"
    refine ⟨3, rfl, by decide, by decide, fun r _ _ => ?_⟩
    simp only [shp_int, eqv_int, true_and]
    refine ⟨fun _ => ?_, fun _ => ?_⟩
    · simp only [reduceCtorEq, Nat.reduceLeDiff, true_and]
      refine tk_i (by decide) (by decide) fun r r0 r1 => at_i r0 (by simpa using r1) fun d hd => ?_
      have : d ∈ [((1 : Int), (2 : Int)), (0, 1), (-1, 3), (1, 1), (-1, 1), (2, 3), (5, 1)].map dq := hd
      obtain ⟨s, hs, rfl⟩ := List.mem_map.1 this
      have : ∀ s ∈ [((1 : Int), (2 : Int)), (0, 1), (-1, 3), (1, 1), (-1, 1), (2, 3), (5, 1)], IsQuo s ∧ (s.1.natAbs < 2 ^ 5 ∧ s.2.natAbs < 2 ^ 5) := by decide
      exact h s (this s hs).1 (this s hs).2
    · refine tk_i (by decide) (by decide) fun r r0 r1 => ?_
      walk_at "hw"
      refine tk_i (by decide) (by decide) fun t t0 t1 => ?_
      refine low_i (n := 5) (by omega) ⟨?_, ?_⟩ (by decide) (by decide) h
      · show (r - 15).natAbs < 2 ^ 5
        omega
      · show (1 + t).natAbs < 2 ^ 5
        omega
  · walk_at "hw"
    simp only [shp_int, eqv_int, true_and]
    refine ⟨fun _ => sq_i ?_, fun z => by simp at z⟩
    walk_at "hw"
    refine ⟨by decide, by decide, by decide, by decide, sq_i ?_⟩
    walk_at "hw"
    refine tk_i (by decide) (by decide) fun r r0 r1 => at_i r0 (by simpa using r1) fun d hd => ?_
    have : d ∈ [(1000000000000000000000000000000000000000000000000000000000000 : Int) - 900000000000000000000000000000000000000000000000000000000000, 10000000000000000000000000000000000000000000000000000000000 + 1, 1000000000000000000000000000000, 7].map PyData.int := hd
    obtain ⟨u, hu, rfl⟩ := List.mem_map.1 this
    have hu1 : 0 ≤ u ∧ u ≤ 100000000000000000000000000000000000000000000000000000000000 := by
      have : ∀ u ∈ [(1000000000000000000000000000000000000000000000000000000000000 : Int) - 900000000000000000000000000000000000000000000000000000000000, 10000000000000000000000000000000000000000000000000000000000 + 1, 1000000000000000000000000000000, 7], 0 ≤ u ∧ u ≤ 100000000000000000000000000000000000000000000000000000000000 := by decide
      exact this u hu
    refine tk_i (by decide) (by decide) fun t t0 t1 => ?_
    refine sq_i ?_
    walk_at "hw"
    refine ⟨by decide, by decide, by decide, by decide, ?_⟩
    refine tk_i (by decide) (by decide) fun r' r0' r1' => at_i r0' (by simpa using r1') fun d' hd' => ?_
    have : d' ∈ [(1000000000000000000000000000000000000000000000000000000000000 : Int) - 900000000000000000000000000000000000000000000000000000000000, 1000000000000000000000000000000000000000000000000000000000 + 3, 100000000000000000000000000000, 1].map PyData.int := hd'
    obtain ⟨b, hb, rfl⟩ := List.mem_map.1 this
    have hb1 : 1 ≤ b ∧ b ≤ 100000000000000000000000000000000000000000000000000000000000 := by
      have : ∀ u ∈ [(1000000000000000000000000000000000000000000000000000000000000 : Int) - 900000000000000000000000000000000000000000000000000000000000, 1000000000000000000000000000000000000000000000000000000000 + 3, 100000000000000000000000000000, 1], 1 ≤ u ∧ u ≤ 100000000000000000000000000000000000000000000000000000000000 := by decide
      exact this b hb
    refine tk_i (by decide) (by decide) fun t' t0' t1' => ?_
    walk_at "hw"
    refine ⟨.inr (.inl (by decide)), tk_i (by decide) (by decide) fun z z0 z1 => ?_⟩
    walk_at "hw"
    refine ⟨.inr (.inr ⟨by omega, by omega⟩), ?_⟩
    have hz : 2 * (u + t) * z = 0 ∨ 2 * (u + t) * z = 2 * (u + t) := by
      have : z = 0 ∨ z = 1 := by omega
      rcases this with rfl | rfl
      · left; simp
      · right; simp
    refine low_i (n := bk 1) (by omega) ⟨?_, ?_⟩ (by decide) (by decide) h
    · refine Nat.lt_of_le_of_lt (m := 100000000000000000000000000000000000000000000000000000010000) ?_ (by decide)
      show ((u + t) - 2 * (u + t) * z).natAbs ≤ _
      omega
    · refine Nat.lt_of_le_of_lt (m := 100000000000000000000000000000000000000000000000000000010000) ?_ (by decide)
      show (b + t').natAbs ≤ _
      omega
  · walk_at "hw"
    simp only [shp_int, eqv_int, true_and]
    refine ⟨fun z => by simp at z, fun _ => sq_i ?_⟩
    walk_at "hw"
    simp only [shp_int, eqv_int, true_and]
    refine ⟨fun _ => sq_i ?_, fun z => by simp at z⟩
    walk_at "hw"
    refine ⟨by decide, by decide, .inl (by decide +kernel), by decide, .inl (by decide +kernel), by decide, .inl (by decide +kernel), by decide, .inl (by decide +kernel), ?_⟩
    refine tk_i (by decide) (by decide) fun r r0 r1 => ?_
    walk_at "hw"
    refine ⟨.inr (.inl (by decide)), tk_i (by decide) (by decide) fun t t0 t1 => ?_⟩
    walk_at "hw"
    have e : (10 ^ Int.toNat 60 * 10 ^ Int.toNat 60 * 10 ^ Int.toNat 60 * 10 ^ Int.toNat 60 * 10 ^ Int.toNat 59 : Int) = ((10 ^ 299 : Nat) : Int) := by decide +kernel
    have g0 : (10000 : Nat) < 10 ^ 299 := by decide +kernel
    have g1 : 9 * 10 ^ 299 + 10000 < 2 ^ bk 2 := by decide +kernel
    rw [e]
    generalize (10 ^ 299 : Nat) = g at g0 g1 ⊢
    refine low_i (n := bk 2) (by omega) ⟨?_, ?_⟩ (by decide) (by decide) h
    · refine Nat.lt_of_le_of_lt ?_ g1
      show (r - (g : Int)).natAbs ≤ _
      omega
    · refine Nat.lt_of_le_of_lt ?_ g1
      show (9 * (g : Int) - t).natAbs ≤ _
      omega
end K01
-- K01i
set_option Elab.async false
set_option linter.all false
set_option maxRecDepth 100000
set_option maxHeartbeats 4000000
open PySem L2
namespace K01
open Hw
local macro_rules | `(tactic| walk_at "hw") => `(tactic| simp only [wNext, wAsg, wAsgB, wAsgC, wRet, wRetN, wExp, wIfS, wFor, wWhile, wSetI, wApp, wPar, wFz, wRaise2, wTry, wVar, wC, wOp, wUn, wCB, wTup, wLst, wTst, Hw.wNot, wAnd, wOr, vAnd, vOr, vNot, wIf, wIsi, wCall, wCallK, wLc, wSeqI, wRng1, wZip, wLstOf, wSl, oNone, oSome, wRev, wIxC, wLenC, wTupC, wXf, wYes, aNil, aCons, aPool, datas, slot, startE, endsOf, setsE, wipeE, noC, noC1, bName, bTup, fAdd, fSub, fMulA, fMod, fDiv, fPow, fLt, fLe, fGt, fGe, fEq, fNe, fNeg, fIx, fGcd, fLen, fAbs, fInt1, fAll, fTupOf, fInt, fInt0, perm, List.set, List.length_cons, List.length_nil, List.replicate, List.cons_append, List.nil_append, List.map_cons, List.map_nil, Nat.reduceAdd, Nat.reduceSub, Nat.zero_add, Nat.sub_self, Option.map, Option.some.injEq, List.filterMap_cons, List.filterMap_nil, List.getElem?_cons_zero, List.getElem?_cons_succ, at0, at1, at2, true_and, and_true, eq_self, true_implies, reduceCtorEq, false_implies, implies_true, Bool.not_true, Bool.not_false, exists_eq_left, exists_eq_left'])
theorem at_map {qs : List Qo} {r : Int} (h0 : 0 ≤ r) (h1 : r < qs.length) : ∃ q, q ∈ qs ∧ atI (qs.map dq) r = some (dq q) := by
  have hl : r.toNat < qs.length := by omega
  refine ⟨qs[r.toNat], List.getElem_mem hl, ?_⟩
  unfold atI
  rw [ixN_ok h0 (by simpa using h1)]
  simp [List.getElem?_eq_getElem hl]
def QR (k : Int) (q : Qo) : Prop := IsQuo q ∧ Bt (bk k) q
def QL (k : Int) (n : Nat) (ds : List PyData) : Prop := ∃ qs : List Qo, ds = qs.map dq ∧ qs.length = n ∧ ∀ q ∈ qs, QR k q
theorem QL.snoc {k : Int} {n : Nat} {ds : List PyData} {q : Qo} (h : QL k n ds) (hq : QR k q) : QL k (n + 1) (ds ++ [dq q]) := by
  obtain ⟨qs, rfl, e, h⟩ := h
  refine ⟨qs ++ [q], by simp, by simp [e], fun x hx => ?_⟩
  rcases List.mem_append.1 hx with hx | hx
  · exact h x hx
  · rw [List.mem_singleton.1 hx]; exact hq
theorem QL.nil {k : Int} : QL k 0 [] := ⟨[], rfl, rfl, fun _ h => by cases h⟩
theorem r_l_rows : ∀ ss Qd Xd, c_l_rows ss Qd Xd → w_l_rows (endsOf Qd Xd) (startE 7 ss) := by
  rintro ss Qd Xd ⟨rfl, h⟩
  unfold w_l_rows
  refine sq_i ?_
  walk_at "hw"
  refine tk_i (by decide) (by decide) fun p p0 p1 => ?_
  refine sq_i ?_
  walk_at "hw"
  refine sq_i ?_
  walk_at "hw"
  refine tk_i (by decide) (by decide) fun n n0 n1 => ?_
  refine sq_i ?_
  -- the three cases
  let R : List Sl → Prop := fun env => ∃ (k m : Int), env = [.pool, .val (.int p), .val (.int k), .val (.int m), .un, .un, .un] ∧ (k = 0 ∨ k = 1 ∨ k = 2) ∧ 0 ≤ m ∧ m ≤ 40 ∧ m * (2 * (bk k : Nat) + 1) ≤ 8990
  have key : ∀ (Ed : WEnds) env, (∀ e, R e → Ed.nx e) → env = [.pool, .val (.int p), .val (.int 0), .val (.int n), .un, .un, .un] → wIfS (wTst (wOp fGt (wVar 1) (wC (.int 27))))
      (wAsg 3 (wC (.int 40)))
      (wIfS (wTst (wOp fGt (wVar 1) (wC (.int 23))))
      (wSeq (wAsg 2 (wC (.int 1)))
      (wAsg 3 (wOp fAdd (wVar 3) (wC (.int 2)))))
      (wIfS (wTst (wOp fEq (wVar 1) (wC (.int 23))))
      (wSeq (wAsg 2 (wC (.int 2)))
      (wAsg 3 (wC (.int 4))))
      wNext)) Ed env := by
    rintro Ed env hE rfl
    walk_at "hw"
    refine ⟨fun _ => hE _ ⟨0, 40, rfl, by decide, by decide, by decide, by decide⟩, fun _ => ⟨fun _ => sq_i ?_, fun _ => ?_⟩⟩
    · walk_at "hw"
      refine hE _ ⟨1, n + 2, rfl, by decide, by omega, by omega, ?_⟩
      show (n + 2) * (2 * (200 : Nat) + 1) ≤ 8990
      omega
    · simp only [shp_int, eqv_int, true_and]
      refine ⟨fun _ => sq_i ?_, fun _ => hE _ ⟨0, n, rfl, by decide, by omega, by omega, ?_⟩⟩
      · walk_at "hw"
        exact hE _ ⟨2, 4, rfl, by decide, by decide, by decide, by decide⟩
      · show n * (2 * (5 : Nat) + 1) ≤ 8990
        omega
  refine key _ _ ?_ rfl
  rintro e ⟨k, m, rfl, hk, m0, m1, hn⟩
  refine sq_i ?_
  walk_at "hw"
  refine ⟨by omega, by omega, ?_, QL k, QL.nil, fun i d acc hi hl hI => ⟨_, rfl, ?_⟩, fun ds hl hQ => ?_⟩
  · rw [rgD_len]
    omega
  · walk_at "hw"
    exact ⟨k, rfl, hk, fun s h1 h2 => hI.snoc ⟨h1, h2⟩⟩
  obtain ⟨ls, rfl, el, hls⟩ := hQ
  refine sq_i ?_
  walk_at "hw"
  refine ⟨by omega, by omega, ?_, QL k, QL.nil, fun i d acc hi hl hI => ⟨_, rfl, ?_⟩, fun ds hl hQ => ?_⟩
  · rw [rgD_len]
    omega
  · walk_at "hw"
    exact ⟨k, rfl, hk, fun s h1 h2 => hI.snoc ⟨h1, h2⟩⟩
  obtain ⟨rs, rfl, er, hrs⟩ := hQ
  rw [rgD_len] at el er
  have fin : ∀ ls' : List Qo, ls'.length = ls.length → (∀ q ∈ ls', QR k q) → Qd (.list [.list (ls'.map dq), .list (rs.map dq), .int k]) := fun ls' e hq => by
    refine h _ _ _ ⟨by omega, hk, ?_, by omega, hq, hrs⟩
    have : ((ls'.length : Nat) : Int) = m := by omega
    have : ((ls'.length * (2 * bk k + 1) : Nat) : Int) ≤ 8990 := by rw [Int.natCast_mul, this]; exact hn
    omega
  have fin2 : ∀ ls' : List Qo, ls'.length = ls.length → (∀ q ∈ ls', QR k q) → wFz 4 (wRet (wLst (aCons (wVar 4) (aCons (wVar 6) (aCons (wVar 2) aNil)))))
    { nx := fun x => Qd PyData.none, rt := Qd, xc := fun x => Xd }
    [Sl.pool, Sl.val (PyData.int p), Sl.val (PyData.int k), Sl.val (PyData.int m), Sl.cell (List.map dq ls'), Sl.un, Sl.val (PyData.list (List.map dq rs))] := fun ls' e hq => by
    walk_at "hw"
    exact ⟨by decide, fin ls' e hq⟩
  refine sq_i ?_
  walk_at "hw"
  refine sq_i ?_
  walk_at "hw"
  refine ⟨fun hm => ?_, fun _ => ⟨by decide, fin ls rfl hls⟩⟩
  have hm1 : 1 < m := of_decide_eq_true hm
  refine tk_i (by decide) (by decide) fun r r0 r1 => ?_
  simp only [shp_int, eqv_int, true_and]
  refine ⟨fun _ => ?_, fun _ => fin2 ls rfl hls⟩
  refine tk_i (by omega) (by omega) fun r r0 r1 => ?_
  obtain ⟨q, hq, e⟩ := at_map (qs := ls) r0 (by omega)
  refine ⟨_, e, tk_i (by omega) (by omega) fun t t0 t1 => ⟨t.toNat, by rw [List.length_map]; exact ixN_ok t0 (by omega), ?_⟩⟩
  rw [← List.map_set]
  refine fin2 _ (by simp) fun x hx => ?_
  rcases List.mem_or_eq_of_mem_set hx with hx | hx
  · exact hls x hx
  · rw [hx]; exact hls q hq
theorem r_l_bad : ∀ ss Qd Xd, c_l_bad ss Qd Xd → w_l_bad (endsOf Qd Xd) (startE 2 ss) := by
  rintro ss Qd Xd ⟨rfl, h⟩
  unfold w_l_bad
  refine sq_i ?_
  walk_at "hw"
  simp only [Nat.reduceLeDiff, Nat.zero_le, true_and]
  refine tk_i (by decide) (by decide) fun r r0 r1 => at_i r0 (by simpa using r1) fun d hd => h d ?_
  refine (show ∀ d ∈ [PyData.tuple [PyData.int 2, PyData.int 4], PyData.tuple [PyData.bool true, PyData.int 1], PyData.tuple [PyData.int 1, PyData.bool true],
    PyData.tuple [PyData.int 0, PyData.int 2], PyData.tuple [PyData.int 1, PyData.int (-2)], PyData.tuple [PyData.int 1, PyData.int 0], PyData.list [PyData.int 1, PyData.int 2],
    PyData.tuple [PyData.int 1], PyData.tuple [PyData.int 1, PyData.int 2, PyData.int 3], PyData.int 5, PyData.none, PyData.str (Str.ofString "1/2"), PyData.tuple [],
    PyData.tuple [PyData.str (Str.ofString "1"), PyData.int 2]], isQ d = false from ?_) d hd
  decide
def CMono (c : Ct) : Prop := ∀ ss (Q Q' : DQ) (X X' : XQ), (∀ d, Q d → Q' d) → (∀ x, X x → X' x) → c ss Q X → c ss Q' X'
theorem cm_total {C : Addr} : CMono (c_total C) := by
  rintro ss Q Q' X X' hQ hX ⟨d, rfl, h1, h2, h3⟩
  refine ⟨d, rfl, h1, fun z => hX _ (h2 z), fun qs e hq => ?_⟩
  obtain ⟨a, n, b, c, d, e⟩ := h3 qs e hq
  exact ⟨a, n, b, c, d, fun s x y z => hQ _ (e s x y z)⟩
theorem cm_weighed {C : Addr} : CMono (c_weighed C) := by
  rintro ss Q Q' X X' hQ hX ⟨d, e, rfl, h1, h2, h3, h4, h5⟩
  refine ⟨d, e, rfl, h1, h2, fun z => hX _ (h3 z), fun z y => hX _ (h4 z y), fun qs rs e1 e2 el hq hr => ?_⟩
  obtain ⟨n, b, c, d, e, f⟩ := h5 qs rs e1 e2 el hq hr
  exact ⟨n, b, c, d, e, fun s x y z => hQ _ (f s x y z)⟩
theorem cm_end {C : Addr} {b : Qo → Qo → Prop} : CMono (cEnd C b) := by
  rintro ss Q Q' X X' hQ hX ⟨d, rfl, h1, h2, h3⟩
  refine ⟨d, rfl, h1, fun z => hX _ (h2 z), fun qs e hn hq => ?_⟩
  obtain ⟨n, a, b, c, d⟩ := h3 qs e hn hq
  exact ⟨n, a, b, c, fun s x y => hQ _ (d s x y)⟩
local macro_rules | `(tactic| walk_at "ask_x") => `(tactic| (
  intro w hw
  refine ⟨rfl, fun a c dd => sq_i ?_⟩
  walk_at "hw"
  refine ⟨rfl, _, rfl, ?_⟩
  simp only [shp_int, eqv_int, true_and]
  refine ⟨fun z => by simp at z, fun _ => ⟨rfl, _, rfl, _, rfl, ?_⟩⟩
  refine ⟨fun z => Bool.noConfusion z, fun _ => ⟨rfl, _, rfl, fun z => Bool.noConfusion z, fun _ => ⟨rfl, _, rfl, by decide, hw⟩⟩⟩))
theorem r_l_ask (C : Addr) : ∀ ss Qd Xd, c_l_ask C ss Qd Xd → w_l_ask C (endsOf Qd Xd) (startE 5 ss) := by
  rintro ss Qd Xd ⟨k, l, r, nm, rfl, h⟩
  unfold w_l_ask
  walk_at "hw"
  have hQ : ∀ d, Qd (told d) → 2 ≤ 16777216 ∧ Qd (.tuple [.str "told", d]) := fun d h => ⟨by decide, h⟩
  have hX : ∀ (P : XD → Prop), (∀ w, Qd (refd w) → P (nu C w)) → ∀ x : XD, (∃ w, x = nu C w ∧ Qd (refd w)) → P x := by
    rintro P hP x ⟨w, rfl, h⟩
    exact hP w h
  refine sq_i ?_
  walk_at "hw"
  simp only [shp_int, eqv_int, true_and]
  rcases h with ⟨rfl, h⟩ | ⟨rfl, h⟩ | ⟨rfl, h⟩ | ⟨rfl, h⟩
  · refine ⟨fun _ => ⟨fun _ => cm_total _ _ _ _ _ hQ (hX _ ?_) h, fun _ => cm_total _ _ _ _ _ hQ (hX _ ?_) h⟩, fun z => by simp at z⟩
    · walk_at "ask_x"
    · walk_at "ask_x"
  · refine ⟨fun z => by simp at z, fun _ => sq_i ?_⟩
    walk_at "hw"
    simp only [shp_int, eqv_int, true_and]
    refine ⟨fun _ => ⟨fun _ => cm_weighed _ _ _ _ _ hQ (hX _ ?_) h, fun _ => cm_weighed _ _ _ _ _ hQ (hX _ ?_) h⟩, fun z => by simp at z⟩
    · walk_at "ask_x"
    · walk_at "ask_x"
  · refine ⟨fun z => by simp at z, fun _ => sq_i ?_⟩
    walk_at "hw"
    simp only [shp_int, eqv_int, true_and]
    refine ⟨fun z => by simp at z, fun _ => sq_i ?_⟩
    walk_at "hw"
    simp only [shp_int, eqv_int, true_and]
    refine ⟨fun _ => ⟨fun _ => cm_end _ _ _ _ _ hQ (hX _ ?_) h, fun _ => cm_end _ _ _ _ _ hQ (hX _ ?_) h⟩, fun z => by simp at z⟩
    · walk_at "ask_x"
    · walk_at "ask_x"
  · refine ⟨fun z => by simp at z, fun _ => sq_i ?_⟩
    walk_at "hw"
    simp only [shp_int, eqv_int, true_and]
    refine ⟨fun z => by simp at z, fun _ => sq_i ?_⟩
    walk_at "hw"
    simp only [shp_int, eqv_int, true_and]
    refine ⟨fun z => by simp at z, fun _ => ?_⟩
    refine ⟨fun _ => cm_end _ _ _ _ _ hQ (hX _ ?_) h, fun _ => cm_end _ _ _ _ _ hQ (hX _ ?_) h⟩
    · walk_at "ask_x"
    · walk_at "ask_x"
end K01
-- K01j
set_option Elab.async false
set_option linter.all false
set_option maxRecDepth 100000
set_option maxHeartbeats 4000000
open PySem L2
namespace K01
open Hw
instance {n : Nat} {q : Qo} : Decidable (Bt n q) := inferInstanceAs (Decidable (_ ∧ _))
local macro_rules | `(tactic| walk_at "hw") => `(tactic| simp only [wNext, wAsg, wAsgB, wAsgC, wRet, wRetN, wExp, wIfS, wFor, wWhile, wSetI, wApp, wPar, wFz, wRaise2, wTry, wVar, wC, wOp, wUn, wCB, wTup, wLst, wTst, Hw.wNot, wAnd, wOr, vAnd, vOr, vNot, wIf, wIsi, wCall, wCallK, wLc, wSeqI, wRng1, wZip, wLstOf, wSl, oNone, oSome, wRev, wIxC, wLenC, wTupC, wXf, wYes, aNil, aCons, aPool, datas, slot, startE, endsOf, setsE, wipeE, noC, noC1, bName, bTup, fAdd, fSub, fMulA, fMod, fDiv, fPow, fLt, fLe, fGt, fGe, fEq, fNe, fNeg, fIx, fGcd, fLen, fAbs, fInt1, fAll, fTupOf, fInt, fInt0, perm, List.set, List.length_cons, List.length_nil, List.replicate, List.cons_append, List.nil_append, List.map_cons, List.map_nil, Nat.reduceAdd, Nat.reduceSub, Nat.zero_add, Nat.sub_self, Option.map, Option.some.injEq, List.filterMap_cons, List.filterMap_nil, List.getElem?_cons_zero, List.getElem?_cons_succ, at0, at1, at2, true_and, and_true, eq_self, true_implies, reduceCtorEq, false_implies, implies_true, Bool.not_true, Bool.not_false, exists_eq_left, exists_eq_left'])
theorem shp_told : SeqAt.shaped (.str "told") = true := by decide +kernel
theorem take_succ_sum {P : List Qo} {i : Nat} {p : Qo} (h : P[i]? = some p) : sumU (P.take (i + 1)) = stepU (sumU (P.take i)) p := by
  rw [List.take_add_one, h]
  unfold sumU
  simp
theorem at_map' {qs : List Qo} {i : Nat} {q : Qo} (h : qs[i]? = some q) : atI (qs.map dq) (i : Nat) = some (dq q) := by
  unfold atI
  have := (List.getElem?_eq_some_iff.mp h).1
  rw [ixN_ok (by omega) (by simpa using this)]
  simp [h]
theorem rg_get {n i : Nat} {d : PyData} (h : (rgD 0 n)[i]? = some d) : i < n ∧ d = .int (i : Nat) := by
  have l := (List.getElem?_eq_some_iff.mp h).1
  rw [rgD_len] at l
  rw [rgD_get l] at h
  refine ⟨l, ?_⟩
  have := Option.some.inj h
  rw [← this]; simp
theorem r_l_sum : ∀ ss Qd Xd, c_l_sum ss Qd Xd → w_l_sum (endsOf Qd Xd) (startE 8 ss) := by
  rintro ss Qd Xd ⟨ls, rs, s, n, rfl, el, hs, es, n0, bl, br, l40, h9, bs, h⟩
  unfold w_l_sum
  refine sq_i ?_
  walk_at "hw"
  refine sq_i ?_
  walk_at "hw"
  refine sq_i ?_
  walk_at "hw"
  have bt1 : Bt (1 + 0 * (2 * n + 1)) (sumU ((List.zipWith pr ls rs).take 0)) := by rw [Nat.zero_mul]; show Bt 1 (0, 1); decide
  refine ⟨by omega, by simp; omega, fun i env => ∃ a b c : Sl, env = [.val (.list (ls.map dq)), .val (.list (rs.map dq)), .val (told (dq s)), .val (.int (sumU ((List.zipWith pr ls rs).take i)).1), .val (.int (sumU ((List.zipWith pr ls rs).take i)).2), a, b, c] ∧ Bt (1 + i * (2 * n + 1)) (sumU ((List.zipWith pr ls rs).take i)), ⟨_, _, _, rfl, bt1⟩, ?_, ?_⟩
  · rintro i d env hd ⟨a, b, c, rfl, bt⟩
    obtain ⟨hi, rfl⟩ := rg_get hd
    simp only [List.length_map, Int.toNat_natCast] at hi
    obtain ⟨q, hq⟩ : ∃ q, ls[i]? = some q := ⟨_, List.getElem?_eq_getElem hi⟩
    obtain ⟨r, hr⟩ : ∃ r, rs[i]? = some r := ⟨_, List.getElem?_eq_getElem (by omega)⟩
    have hp : (List.zipWith pr ls rs)[i]? = some (pr q r) := by rw [List.getElem?_zipWith, hq, hr]
    have bq := bl q (List.mem_of_getElem? hq)
    have br := br r (List.mem_of_getElem? hr)
    have hn : (i + 1) * (2 * n + 1) ≤ 9000 := Nat.le_trans (Nat.mul_le_mul_right _ hi) h9
    have hn' : (i + 1) * (2 * n + 1) = i * (2 * n + 1) + (2 * n + 1) := Nat.succ_mul _ _
    refine sq_i ?_
    walk_at "hw"
    refine ⟨_, at_map' hq, ?_⟩
    refine Exists.intro _ (And.intro rfl ?_)
    refine ⟨_, at_map' hr, ?_⟩
    refine Exists.intro _ (And.intro rfl ?_)
    refine ⟨.inl (wide bq.1 br.1 n0 n0 (by omega)), sq_i ?_⟩
    walk_at "hw"
    refine ⟨_, at_map' hq, ?_⟩
    refine Exists.intro _ (And.intro rfl ?_)
    refine ⟨_, at_map' hr, ?_⟩
    refine Exists.intro _ (And.intro rfl ?_)
    refine ⟨.inl (wide bq.2 br.2 n0 n0 (by omega)), sq_i ?_⟩
    walk_at "hw"
    have bp := pr_bt bq br
    refine ⟨.inl (wide bt.1 bp.2 (by omega) (by omega) (by omega)), .inl (wide bp.1 bt.2 (by omega) (by omega) (by omega)), .inl (wide bt.2 bp.2 (by omega) (by omega) (by omega)), ?_⟩
    rw [take_succ_sum hp]
    refine ⟨_, _, _, rfl, (stepU_bt bt bp).mono (by omega)⟩
  · rintro env ⟨a, b, c, rfl, bt⟩
    have et : (rgD 0 (↑(List.map dq ls).length : Int).toNat).length = ls.length := by simp [rgD_len]
    rw [et] at bt ⊢
    rw [List.take_of_length_le (by simp; omega)] at bt ⊢
    unfold told
    walk_at "hw"
    refine ⟨shp_told, shp_told, fun _ => ?_, fun z => absurd z (by decide)⟩
    · refine ⟨s, _, _, 10000, rfl, hs, bs, bt.mono (by omega), by decide, by decide, ?_⟩
      rw [decide_eq_true (show Eqq s _ from es)]
      exact h
theorem end_ok {g : Int} {q s : Qo} (hg : g = 1 ∨ g = -1) (h : ¬ (if g = 1 then lt q s else gt q s)) : ¬ g * (q.1 * s.2 - s.1 * q.2) < 0 := by
  rcases hg with rfl | rfl
  · simp only [if_true, lt] at h; omega
  · rw [if_neg (by decide)] at h; simp only [gt, lt] at h; omega
theorem mem_take_succ {ls : List Qo} {s q : Qo} {i : Nat} (h : ls[i]? = some q) : s ∈ ls.take (i + 1) ↔ s ∈ ls.take i ∨ s = q := by
  rw [List.take_add_one, h]
  simp
theorem r_l_end : ∀ ss Qd Xd, c_l_end ss Qd Xd → w_l_end (endsOf Qd Xd) (startE 5 ss) := by
  rintro ss Qd Xd ⟨ls, s, g, rfl, hg, l80, bl, hs, ms, hn, h⟩
  unfold w_l_end told
  refine sq_i ?_
  walk_at "hw"
  refine ⟨shp_told, shp_told, fun z => absurd z (by decide), fun _ => ⟨s, rfl, hs, fun z => Bool.noConfusion z, fun _ => sq_i ?_⟩⟩
  walk_at "hw"
  refine sq_i ?_
  walk_at "hw"
  refine ⟨fun i env => ∃ a : Sl, env = [.val (.list (ls.map dq)), .val (.tuple [.str "told", dq s]), .val (.int g), .val (.bool (decide (s ∈ ls.take i))), a], ⟨_, rfl⟩, ?_, ?_⟩
  · rintro i d env hd ⟨a, rfl⟩
    obtain ⟨q, hq, rfl⟩ : ∃ q, ls[i]? = some q ∧ d = dq q := by
      rw [List.getElem?_map] at hd
      cases e : ls[i]? with
      | none => rw [e] at hd; cases hd
      | some q => rw [e] at hd; cases hd; exact ⟨q, rfl, rfl⟩
    have bs := bl s ms
    have bq := bl q (List.mem_of_getElem? hq)
    have hk := end_ok hg (hn q (List.mem_of_getElem? hq))
    have hms := mem_take_succ (s := s) hq
    refine sq_i ?_
    walk_at "hw"
    refine ⟨fun z => ?_, fun z => ⟨shp_dq _, shp_dq _, ?_⟩⟩
    · refine Exists.intro _ (And.intro rfl ?_)
      refine Exists.intro _ (And.intro rfl ?_)
      refine And.intro (.inl (wide bq.1 bs.2 (by decide) (by decide) (by decide))) ?_
      refine Exists.intro _ (And.intro rfl ?_)
      refine Exists.intro _ (And.intro rfl ?_)
      refine And.intro (.inl (wide bs.1 bq.2 (by decide) (by decide) (by decide))) ?_
      refine And.intro (.inr (.inl (by omega))) ?_
      refine And.intro (fun z => absurd (of_decide_eq_true z) hk) (fun _ => ?_)
      refine Exists.intro (.val (dq q)) ?_
      rw [decide_eq_true (hms.2 (.inl (of_decide_eq_true z)))]
    · refine Exists.intro _ (And.intro rfl ?_)
      refine Exists.intro _ (And.intro rfl ?_)
      refine And.intro (.inl (wide bq.1 bs.2 (by decide) (by decide) (by decide))) ?_
      refine Exists.intro _ (And.intro rfl ?_)
      refine Exists.intro _ (And.intro rfl ?_)
      refine And.intro (.inl (wide bs.1 bq.2 (by decide) (by decide) (by decide))) ?_
      refine And.intro (.inr (.inl (by omega))) ?_
      refine And.intro (fun z => absurd (of_decide_eq_true z) hk) (fun _ => ?_)
      refine Exists.intro (.val (dq q)) ?_
      rw [eqv_dq]
      have : decide (s ∈ ls.take (i + 1)) = decide (q = s) := by
        have z := of_decide_eq_false z
        rw [decide_eq_decide, hms]
        constructor
        · rintro (y | y)
          · exact (z y).elim
          · exact y.symm
        · exact fun y => .inr y.symm
      rw [this]
  · rintro env ⟨a, rfl⟩
    rw [List.length_map, List.take_length, decide_eq_true ms]
    exact h
end K01
-- K01k
set_option Elab.async false
set_option linter.all false
set_option maxRecDepth 100000
set_option maxHeartbeats 4000000
open PySem L2
namespace K01
open Hw
local macro_rules | `(tactic| walk_at "hw") => `(tactic| simp only [wNext, wAsg, wAsgB, wAsgC, wRet, wRetN, wExp, wIfS, wFor, wWhile, wSetI, wApp, wPar, wFz, wRaise2, wTry, wVar, wC, wOp, wUn, wCB, wTup, wLst, wTst, Hw.wNot, wAnd, wOr, vAnd, vOr, vNot, wIf, wIsi, wCall, wCallK, wLc, wSeqI, wRng1, wZip, wLstOf, wSl, oNone, oSome, wRev, wIxC, wLenC, wTupC, wXf, wYes, aNil, aCons, aPool, datas, slot, startE, endsOf, setsE, wipeE, noC, noC1, bName, bTup, fAdd, fSub, fMulA, fMod, fDiv, fPow, fLt, fLe, fGt, fGe, fEq, fNe, fNeg, fIx, fGcd, fLen, fAbs, fInt1, fAll, fTupOf, fInt, fInt0, perm, List.set, List.length_cons, List.length_nil, List.replicate, List.cons_append, List.nil_append, List.map_cons, List.map_nil, Nat.reduceAdd, Nat.reduceSub, Nat.zero_add, Nat.sub_self, Option.map, Option.some.injEq, List.filterMap_cons, List.filterMap_nil, List.getElem?_cons_zero, List.getElem?_cons_succ, at0, at1, at2, true_and, and_true, eq_self, true_implies, reduceCtorEq, false_implies, implies_true, Bool.not_true, Bool.not_false, exists_eq_left, exists_eq_left'])
theorem zip_le {ls rs : List Qo} (h : rs.length = ls.length) : (List.zipWith pr ls rs).length = ls.length := by simp [h]
theorem sumU_take_pos {P : List Qo} (h : ∀ p ∈ P, 1 ≤ p.2) (i : Nat) : 0 < (sumU (P.take i)).2 := sumU_pos (by decide) fun q hq => by have := h q (List.mem_of_mem_take hq); omega
theorem zip_mem {ls rs : List Qo} (hl : ∀ q ∈ ls, 1 ≤ q.2) (hr : ∀ q ∈ rs, 1 ≤ q.2) : ∀ p ∈ List.zipWith pr ls rs, 1 ≤ p.2 := by
  intro p hp
  obtain ⟨i, hi⟩ := List.getElem?_of_mem hp
  rw [List.getElem?_zipWith] at hi
  cases e1 : ls[i]? with
  | none => rw [e1] at hi; cases hi
  | some q =>
    cases e2 : rs[i]? with
    | none => rw [e1, e2] at hi; cases hi
    | some r =>
      rw [e1, e2] at hi
      cases hi
      have a := hl q (List.mem_of_getElem? e1)
      have b := hr r (List.mem_of_getElem? e2)
      have := Int.mul_pos (show 0 < q.2 by omega) (show 0 < r.2 by omega)
      show 1 ≤ q.2 * r.2
      omega
theorem two_i {C : Addr} {P : Qo → Qo → DQ → Prop} {q r : Qo} {Q : DQ} {X : XQ} (iq : IsQuo q) (ir : IsQuo r) (h : P q r Q) : cTwo C P [.val (dq q), .val (dq r)] Q X := by
  refine ⟨_, _, rfl, fun z => ?_, fun _ z => ?_, fun x y ex ey _ _ => ?_⟩
  · rw [isQ_dq iq] at z; cases z
  · rw [isQ_dq ir] at z; cases z
  · cases dq_inj ex
    cases dq_inj ey
    exact h
theorem stepU_sym (a b : Qo) : stepU a b = stepU b a := by
  unfold stepU
  simp only [Prod.mk.injEq]
  constructor
  · omega
  · exact Int.mul_comm _ _
theorem r_l_folded (C : Addr) : ∀ ss Qd Xd, c_l_folded C ss Qd Xd → w_l_folded C (endsOf Qd Xd) (startE 7 ss) := by
  rintro ss Qd Xd ⟨ls, rs, s, t, rfl, R, hs, es, ht, et, h⟩
  unfold w_l_folded
  refine sq_i ?_
  walk_at "hw"
  refine ⟨by decide, sq_i ?_⟩
  walk_at "hw"
  refine ⟨by decide, sq_i ?_⟩
  walk_at "hw"
  have l40 := R.l40
  have el := R.len
  have pl : ∀ q ∈ ls, 1 ≤ q.2 := fun q h => (R.ql q h).1.1
  have pr' : ∀ q ∈ rs, 1 ≤ q.2 := fun q h => (R.qr q h).1.1
  have pz := zip_mem pl pr'
  let I : Nat → List Sl → Prop := fun i env => ∃ (a b : Qo) (c : Sl), env = [.val (.list (ls.map dq)), .val (.list (rs.map dq)), .val (dq s), .val (dq t), .val (dq a), .val (dq b), c] ∧ IsQuo a ∧ IsQuo b ∧ Eqq a (sumU (ls.take i)) ∧ Eqq b (sumU ((List.zipWith pr ls rs).take i)) ∧ Bt (1 + i * 11) a ∧ Bt (1 + i * 11) b
  refine ⟨by omega, by simp; omega, I, ⟨(0, 1), (0, 1), .un, rfl, by decide, by decide, rfl, rfl, by decide, by decide⟩, ?_, ?_⟩
  · rintro i d env hd ⟨a, b, c, rfl, qa, qb, ea, eb, ba, bb⟩
    obtain ⟨hi, rfl⟩ := rg_get hd
    simp only [List.length_map, Int.toNat_natCast] at hi
    obtain ⟨q, hq⟩ : ∃ q, ls[i]? = some q := ⟨_, List.getElem?_eq_getElem hi⟩
    obtain ⟨r, hr⟩ : ∃ r, rs[i]? = some r := ⟨_, List.getElem?_eq_getElem (by omega)⟩
    have hp : (List.zipWith pr ls rs)[i]? = some (pr q r) := by rw [List.getElem?_zipWith, hq, hr]
    have Rq := R.ql q (List.mem_of_getElem? hq)
    have Rr := R.qr r (List.mem_of_getElem? hr)
    refine sq_i ?_
    walk_at "hw"
    refine ⟨_, at_map' hq, ?_⟩
    refine two_i qa Rq.1 ⟨1 + i * 11, 5, ba, Rq.2, by omega, by decide, by omega, fun a' qa' ea' ba' => ?_⟩
    refine ⟨_, at_map' hq, _, at_map' hr, two_i Rq.1 Rr.1 ⟨5, 5, Rq.2, Rr.2, by decide, by decide, by decide, fun p qp ep bp => ?_⟩⟩
    refine two_i qp qb ⟨10, 1 + i * 11, bp, bb, by decide, by omega, by omega, fun b' qb' eb' bb' => ?_⟩
    have u1 := sumU_take_pos pl i
    have u2 := sumU_take_pos pz i
    have ha := qa.1
    have hb := qb.1
    have hq2 := Rq.1.1
    have hp2 := qp.1
    refine ⟨a', b', _, rfl, qa', qb', ?_, ?_, ba'.mono (by omega), bb'.mono (by omega)⟩
    · rw [take_succ_sum hq]
      exact eqq_step (by omega) (by omega) ea (Int.mul_comm _ _) ea'
    · rw [take_succ_sum hp]
      rw [stepU_sym] at eb'
      exact eqq_step (by omega) (by omega) eb ep eb'
  · rintro env ⟨a, b, c, rfl, qa, qb, ea, eb, _, _⟩
    have et' : (rgD 0 (↑(List.map dq ls).length : Int).toNat).length = ls.length := by simp [rgD_len]
    rw [et', List.take_length] at ea
    rw [et', List.take_of_length_le (by simp; omega)] at eb
    have e1 : a = s := eqq_uniq qa hs (by have := sumU_pos (u := (0, 1)) (qs := ls) (by decide) fun q h => by have := pl q h; omega
                                          unfold sumU; omega) ea es
    have e2 : b = t := eqq_uniq qb ht (by have := sumU_pos (u := (0, 1)) (qs := List.zipWith pr ls rs) (by decide) fun q h => by have := pz q h; omega
                                          unfold sumU; omega) eb et
    subst e1 e2
    walk_at "hw"
    refine ⟨shp_dq _, shp_dq _, fun _ => ⟨shp_dq _, shp_dq _, ?_⟩, fun z => ?_⟩
    · rw [eqv_dq, decide_eq_true rfl]; exact h
    · rw [eqv_dq, decide_eq_true rfl] at z; cases z
end K01
-- K01l
set_option Elab.async false
set_option linter.all false
set_option maxRecDepth 100000
set_option maxHeartbeats 4000000
open PySem L2
namespace K01
open Hw
local macro_rules | `(tactic| walk_at "hw") => `(tactic| simp only [wNext, wAsg, wAsgB, wAsgC, wRet, wRetN, wExp, wIfS, wFor, wWhile, wSetI, wApp, wPar, wFz, wRaise2, wTry, wVar, wC, wOp, wUn, wCB, wTup, wLst, wTst, Hw.wNot, wAnd, wOr, vAnd, vOr, vNot, wIf, wIsi, wCall, wCallK, wLc, wSeqI, wRng1, wZip, wLstOf, wSl, oNone, oSome, wRev, wIxC, wLenC, wTupC, wXf, wYes, aNil, aCons, aPool, datas, slot, startE, endsOf, setsE, wipeE, noC, noC1, bName, bTup, fAdd, fSub, fMulA, fMod, fDiv, fPow, fLt, fLe, fGt, fGe, fEq, fNe, fNeg, fIx, fGcd, fLen, fAbs, fInt1, fAll, fTupOf, fInt, fInt0, perm, List.set, List.length_cons, List.length_nil, List.replicate, List.cons_append, List.nil_append, List.map_cons, List.map_nil, Nat.reduceAdd, Nat.reduceSub, Nat.zero_add, Nat.sub_self, Option.map, Option.some.injEq, List.filterMap_cons, List.filterMap_nil, List.getElem?_cons_zero, List.getElem?_cons_succ, at0, at1, at2, true_and, and_true, eq_self, true_implies, reduceCtorEq, false_implies, implies_true, Bool.not_true, Bool.not_false, exists_eq_left, exists_eq_left'])
theorem cut_map {qs : List Qo} {lo hi : Option Int} : ∃ rs : List Qo, cutD (qs.map dq) lo hi = rs.map dq ∧ ∀ q ∈ rs, q ∈ qs := by
  refine ⟨(qs.drop (HT.sIx (qs.map dq).length 0 lo)).take (HT.sIx (qs.map dq).length (qs.map dq).length hi - HT.sIx (qs.map dq).length 0 lo), ?_, fun q h => List.mem_of_mem_drop (List.mem_of_mem_take h)⟩
  unfold cutD
  rw [List.map_take, List.map_drop]
theorem map_get {qs : List Qo} {i : Nat} {d : PyData} (h : (qs.map dq)[i]? = some d) : ∃ q, q ∈ qs ∧ qs[i]? = some q ∧ d = dq q := by
  rw [List.getElem?_map] at h
  cases e : qs[i]? with
  | none => rw [e] at h; cases h
  | some q => rw [e] at h; cases h; exact ⟨q, List.mem_of_getElem? e, rfl, rfl⟩
theorem eqv_bool (a : Bool) : PyData.eqv (.bool a) (.bool a) = true := by simp [PyData.eqv]
theorem r_l_ordered (C : Addr) : ∀ ss Qd Xd, c_l_ordered C ss Qd Xd → w_l_ordered C (endsOf Qd Xd) (startE 6 ss) := by
  rintro ss Qd Xd ⟨ls, rfl, hn, l80, hq, h⟩
  have l1 : 0 < ls.length := List.length_pos_iff.2 hn
  unfold w_l_ordered
  refine sq_i ?_
  walk_at "hw"
  refine tk_i (by simp; omega) (by simp; omega) fun r r0 r1 => ?_
  refine sq_i ?_
  walk_at "hw"
  obtain ⟨xs, ex, hx⟩ := cut_map (qs := ls) (lo := some r) (hi := some (r + 9))
  obtain ⟨ys, ey, hy⟩ := cut_map (qs := ls) (lo := none) (hi := some 9)
  rw [ex]
  refine ⟨fun _ env => ∃ a b c : Sl, env = [.val (.list (ls.map dq)), .pool, .val (.int r), a, b, c], ⟨_, _, _, rfl⟩, ?_, fun _ _ => h⟩
  rintro i d env hd ⟨a, b, c, rfl⟩
  obtain ⟨q, mq, _, rfl⟩ := map_get hd
  walk_at "hw"
  rw [ey]
  refine ⟨fun _ env => ∃ b c : Sl, env = [.val (.list (ls.map dq)), .pool, .val (.int r), .val (dq q), b, c], ⟨_, _, rfl⟩, ?_, ?_⟩
  · rintro j d env hd ⟨b, c, rfl⟩
    obtain ⟨t, mt, _, rfl⟩ := map_get hd
    have Q1 := hq q (hx q mq)
    have Q2 := hq t (hy t mt)
    refine sq_i ?_
    walk_at "hw"
    refine two_i Q1.1 Q2.1 ⟨1000, Q1.2, Q2.2, by decide, by decide, ?_⟩
    walk_at "hw"
    refine And.intro (fun z => Bool.noConfusion z) (fun _ => ?_)
    refine Exists.intro _ (And.intro rfl ?_)
    refine Exists.intro _ (And.intro rfl ?_)
    refine And.intro (.inl (wide Q1.2.1 Q2.2.2 (by decide) (by decide) (by decide))) ?_
    refine Exists.intro _ (And.intro rfl ?_)
    refine Exists.intro _ (And.intro rfl ?_)
    refine And.intro (.inl (wide Q2.2.1 Q1.2.2 (by decide) (by decide) (by decide))) ?_
    rw [eqv_bool]
    exact ⟨rfl, rfl, fun z => Bool.noConfusion z, fun _ => ⟨_, _, rfl⟩⟩
  · rintro env ⟨b, c, rfl⟩
    exact ⟨_, _, _, rfl⟩
theorem ask_row {C : Addr} {k : Int} {l r : PyData} {nm : Bool} {Q : DQ} {X : XQ} (hk : k = 0 ∨ k = 1 ∨ k = 2 ∨ k = 3) (hl : isRow l = false) (h1 : dlen l ≤ 10000000) (h2 : dlen r ≤ 10000000) (hQ : Q (refd "row")) :
    c_l_ask C [.val (.int k), .val l, .val r, .val (.bool nm)] Q X := by
  refine ⟨k, l, r, nm, rfl, ?_⟩
  rcases hk with rfl | rfl | rfl | rfl
  · exact .inl ⟨rfl, l, rfl, h1, fun _ => ⟨"row", rfl, hQ⟩, fun qs e hq => by rw [e, isRow_qs hq] at hl; cases hl⟩
  · exact .inr (.inl ⟨rfl, l, r, rfl, h1, h2, fun _ => ⟨"row", rfl, hQ⟩, fun z => (by rw [hl] at z; cases z), fun qs rs e _ _ hq => by rw [e, isRow_qs hq] at hl; cases hl⟩)
  · exact .inr (.inr (.inl ⟨rfl, l, rfl, h1, fun _ => ⟨"row", rfl, hQ⟩, fun qs e _ hq => by rw [e, isRow_qs hq] at hl; cases hl⟩))
  · exact .inr (.inr (.inr ⟨rfl, l, rfl, h1, fun _ => ⟨"row", rfl, hQ⟩, fun qs e _ hq => by rw [e, isRow_qs hq] at hl; cases hl⟩))
theorem ask_none {C : Addr} {k : Int} {r : PyData} {nm : Bool} {Q : DQ} {X : XQ} (hk : k = 2 ∨ k = 3) (hQ : Q (refd "row")) :
    c_l_ask C [.val (.int k), .val (.tuple []), .val r, .val (.bool nm)] Q X := by
  refine ⟨k, _, r, nm, rfl, ?_⟩
  have z : ∀ qs : List Qo, PyData.tuple [] = .tuple (qs.map dq) → qs ≠ [] → False := fun qs e hn => by
    cases qs with
    | nil => exact hn rfl
    | cons q qs => simp at e
  rcases hk with rfl | rfl
  · exact .inr (.inr (.inl ⟨rfl, _, rfl, by decide, fun _ => ⟨"row", rfl, hQ⟩, fun qs e hn hq => (z qs e hn).elim⟩))
  · exact .inr (.inr (.inr ⟨rfl, _, rfl, by decide, fun _ => ⟨"row", rfl, hQ⟩, fun qs e hn hq => (z qs e hn).elim⟩))
theorem ask_others {C : Addr} {l r : PyData} {nm : Bool} {Q : DQ} {X : XQ} (hl : isRow l = true) (hr : isRow r = false ∨ dlen r ≠ dlen l) (h1 : dlen l ≤ 10000000) (h2 : dlen r ≤ 10000000) (hQ : Q (refd "others")) :
    c_l_ask C [.val (.int 1), .val l, .val r, .val (.bool nm)] Q X := by
  refine ⟨1, l, r, nm, rfl, .inr (.inl ⟨rfl, l, r, rfl, h1, h2, fun z => (by rw [hl] at z; cases z), fun _ _ => ⟨"others", rfl, hQ⟩, fun qs rs e e2 el hq hr' => ?_⟩)⟩
  subst e e2
  rcases hr with hr | hr
  · rw [isRow_qs hr'] at hr; cases hr
  · exact (hr (by simp [dlen, el])).elim
theorem shp_row : SeqAt.shaped (refd "row") = true := by decide +kernel
theorem shp_oth : SeqAt.shaped (refd "others") = true := by decide +kernel
theorem eqv_row : PyData.eqv (refd "row") (refd "row") = true := by decide +kernel
theorem eqv_oth : PyData.eqv (refd "others") (refd "others") = true := by decide +kernel
theorem ne_row {R S : Prop} (h : S) : 2 ≤ 16777216 ∧ SeqAt.shaped (refd "row") = true ∧ SeqAt.shaped (.tuple [.str "refused", .str "row"]) = true ∧ ((!(refd "row").eqv (.tuple [.str "refused", .str "row"])) = true → R) ∧ ((!(refd "row").eqv (.tuple [.str "refused", .str "row"])) = false → S) :=
  ⟨by decide, shp_row, shp_row, fun z => (by rw [show (refd "row").eqv (.tuple [.str "refused", .str "row"]) = true from eqv_row] at z; cases z), fun _ => h⟩
theorem ne_oth {R S : Prop} (h : S) : 2 ≤ 16777216 ∧ SeqAt.shaped (refd "others") = true ∧ SeqAt.shaped (.tuple [.str "refused", .str "others"]) = true ∧ ((!(refd "others").eqv (.tuple [.str "refused", .str "others"])) = true → R) ∧ ((!(refd "others").eqv (.tuple [.str "refused", .str "others"])) = false → S) :=
  ⟨by decide, shp_oth, shp_oth, fun z => (by rw [show (refd "others").eqv (.tuple [.str "refused", .str "others"]) = true from eqv_oth] at z; cases z), fun _ => h⟩
theorem cut_len {ds : List PyData} {lo hi : Option Int} : (cutD ds lo hi).length ≤ ds.length := by
  unfold cutD
  rw [List.length_take, List.length_drop]
  omega
theorem bad_row {ds : List PyData} {b : PyData} (h : b ∈ ds) (hb : isQ b = false) : isRow (.tuple ds) = false := by
  unfold isRow
  rw [List.all_eq_false]
  exact ⟨b, h, by rw [hb]; decide⟩
theorem r_l_refused (C : Addr) : ∀ ss Qd Xd, c_l_refused C ss Qd Xd → w_l_refused C (endsOf Qd Xd) (startE 10 ss) := by
  rintro ss Qd Xd ⟨ls, rs, k, nm, rfl, R, h⟩
  have l40 := R.l40
  have el := R.len
  have iL : isRow (.tuple (ls.map dq)) = true := isRow_qs fun q hq => (R.ql q hq).1
  have iR : isRow (.tuple (rs.map dq)) = true := isRow_qs fun q hq => (R.qr q hq).1
  unfold w_l_refused
  refine sq_i ?_
  walk_at "hw"
  refine ⟨rfl, fun bad hb => ?_⟩
  refine sq_i ?_
  walk_at "hw"
  refine tk_i (by simp <;> omega) (by simp <;> omega) fun spot s0 s1 => ?_
  refine sq_i ?_
  walk_at "hw"
  have c1 := cut_len (ds := ls.map dq) (lo := none) (hi := some spot)
  have c2 := cut_len (ds := ls.map dq) (lo := some spot) (hi := none)
  rw [List.length_map] at c1 c2
  have hsp : isRow (.tuple (cutD (List.map dq ls) none (some spot) ++ [bad] ++ cutD (List.map dq ls) (some spot) none)) = false := bad_row (b := bad) (by simp) hb
  have lsp : (cutD (List.map dq ls) none (some spot) ++ [bad] ++ cutD (List.map dq ls) (some spot) none).length ≤ 81 := by
    rw [List.length_append, List.length_append, List.length_singleton]; omega
  have w1 : 1 ≤ 16777216 := by decide
  refine And.intro w1 (And.intro (by omega) (And.intro ?_ ?_))
  · rw [List.length_append, List.length_singleton]; omega
  generalize cutD (List.map dq ls) none (some spot) ++ [bad] ++ cutD (List.map dq ls) (some spot) none = sp at hsp lsp ⊢
  have dL : (ls.map dq).length ≤ 40 := by rw [List.length_map]; exact l40
  have dR : (rs.map dq).length ≤ 40 := by rw [List.length_map]; omega
  refine sq_i ?_
  walk_at "hw"
  refine ⟨by decide, by decide, fun i env => ∃ a : Sl, env = [.pool, .val (.list (ls.map dq)), .val (.list (rs.map dq)), .val (.bool nm), .val bad, .val (.int spot), .val (.tuple sp), a, .un, .un], ⟨_, rfl⟩, ?_, ?_⟩
  · rintro i d env hd ⟨a, rfl⟩
    obtain ⟨hi, rfl⟩ := rg_get hd
    have hk : ((i : Nat) : Int) = 0 ∨ ((i : Nat) : Int) = 1 ∨ ((i : Nat) : Int) = 2 ∨ ((i : Nat) : Int) = 3 := by
      have : i < 4 := hi
      omega
    refine sq_i ?_
    walk_at "hw"
    refine ask_row hk hsp (Nat.le_trans lsp (by decide)) (Nat.le_trans dR (by decide)) (ne_row ?_)
    refine ask_row hk rfl (Nat.zero_le _) (Nat.zero_le _) (ne_row ?_)
    exact ⟨_, rfl⟩
  rintro env ⟨a, rfl⟩
  refine sq_i ?_
  walk_at "hw"
  have one2 : isQ (.tuple [.int 1, .int 2]) = true := by decide
  have iO : isRow (.tuple (List.map dq rs ++ [.tuple [.int 1, .int 2]])) = true := by
    have z : ((List.map dq rs).all isQ) = true := iR
    show ((List.map dq rs ++ [PyData.tuple [PyData.int 1, PyData.int 2]]).all isQ) = true
    rw [List.all_append, z]
    exact one2
  have lO : (List.map dq rs ++ [PyData.tuple [PyData.int 1, PyData.int 2]]).length = ls.length + 1 := by rw [List.length_append, List.length_map, el]; rfl
  refine And.intro (by decide) (And.intro w1 (And.intro (by omega) (sq_i ?_)))
  walk_at "hw"
  refine ask_others iL (.inr (by show (List.map dq rs ++ [PyData.tuple [PyData.int 1, PyData.int 2]]).length ≠ (List.map dq ls).length; rw [lO, List.length_map]; omega)) (Nat.le_trans dL (by decide)) (by show (List.map dq rs ++ [PyData.tuple [PyData.int 1, PyData.int 2]]).length ≤ 10000000; omega) (ne_oth ?_)
  refine sq_i ?_
  walk_at "hw"
  refine ask_others iO (.inr (by show (List.map dq ls).length ≠ (List.map dq rs ++ [PyData.tuple [PyData.int 1, PyData.int 2]]).length; rw [lO, List.length_map]; omega)) (by show (List.map dq rs ++ [PyData.tuple [PyData.int 1, PyData.int 2]]).length ≤ 10000000; omega) (Nat.le_trans dL (by decide)) (ne_oth ?_)
  refine sq_i ?_
  walk_at "hw"
  refine ask_others iL (.inl rfl) (Nat.le_trans dL (by decide)) (Nat.zero_le _) (ne_oth ?_)
  refine sq_i ?_
  walk_at "hw"
  refine sq_i ?_
  walk_at "hw"
  have fin : ∀ (a0 : Sl) (xs : List PyData), wSeq (wFor (wSeqI (wLst (aCons (wC (.int 2)) (aCons (wC (.int 3)) aNil)))) [7] bName
      (wIfS (wTst (wOp fNe (wCall 4 (c_l_ask C) (aCons (wVar 7) (aCons (wTup aNil) (aCons (wTup aNil) (aCons (wVar 3) aNil))))) (wTup (aCons (wC (.str "refused")) (aCons (wC (.str "row")) aNil)))))
      (wRet (wC (.bool false))) wNext)) (wRet (wC (.bool true))) { nx := fun x => Qd PyData.none, rt := Qd, xc := fun x => Xd }
      [.pool, .val (.list (ls.map dq)), .val (.list (rs.map dq)), .val (.bool nm), .val bad, .val (.int spot), .val (.tuple sp), a0, .val (.tuple (List.map dq rs ++ [PyData.tuple [PyData.int 1, PyData.int 2]])), .cell xs] := fun a0 xs => by
    refine sq_i ?_
    walk_at "hw"
    refine ⟨by decide, fun i env => ∃ a : Sl, env = [.pool, .val (.list (ls.map dq)), .val (.list (rs.map dq)), .val (.bool nm), .val bad, .val (.int spot), .val (.tuple sp), a, .val (.tuple (List.map dq rs ++ [PyData.tuple [PyData.int 1, PyData.int 2]])), .cell xs], ⟨_, rfl⟩, ?_, fun _ _ => h⟩
    rintro i d env hd ⟨a, rfl⟩
    have hk : d = .int 2 ∨ d = .int 3 := by
      rcases i with _ | _ | i
      · exact .inl (Option.some.inj hd).symm
      · exact .inr (Option.some.inj hd).symm
      · cases hd
    have z0 : 0 ≤ 16777216 := by decide
    rcases hk with rfl | rfl
    · walk_at "hw"
      exact ⟨z0, z0, ask_none (.inl rfl) (ne_row ⟨_, rfl⟩)⟩
    · walk_at "hw"
      exact ⟨z0, z0, ask_none (.inr rfl) (ne_row ⟨_, rfl⟩)⟩
  refine ⟨fun hr => sq_i ?_, fun _ => fin _ _⟩
  walk_at "hw"
  have hr := of_decide_eq_true hr
  refine tk_i (by omega) (by omega) fun t t0 t1 => ⟨t.toNat, ixN_ok t0 t1, ?_⟩
  refine ask_others iL (.inl (bad_row (b := bad) ?_ hb)) (Nat.le_trans dL (by decide)) ?_ (ne_oth (fin _ _))
  · rw [List.mem_iff_getElem?]
    exact ⟨t.toNat, by rw [List.getElem?_set_self (by omega)]⟩
  · show ((rs.map dq).set t.toNat bad).length ≤ 10000000
    rw [List.length_set]; omega
end K01
-- K01n
set_option Elab.async false
set_option linter.all false
set_option maxRecDepth 100000
set_option maxHeartbeats 4000000
open PySem L2
namespace K01
open Hw
local macro_rules | `(tactic| walk_at "hw") => `(tactic| simp only [wNext, wAsg, wAsgB, wAsgC, wRet, wRetN, wExp, wIfS, wFor, wWhile, wSetI, wApp, wPar, wFz, wRaise2, wTry, wVar, wC, wOp, wUn, wCB, wTup, wLst, wTst, Hw.wNot, wAnd, wOr, vAnd, vOr, vNot, wIf, wIsi, wCall, wCallK, wLc, wSeqI, wRng1, wZip, wLstOf, wSl, oNone, oSome, wRev, wIxC, wLenC, wTupC, wXf, wYes, aNil, aCons, aPool, datas, slot, startE, endsOf, setsE, wipeE, noC, noC1, bName, bTup, fAdd, fSub, fMulA, fMod, fDiv, fPow, fLt, fLe, fGt, fGe, fEq, fNe, fNeg, fIx, fGcd, fLen, fAbs, fInt1, fAll, fTupOf, fInt, fInt0, perm, List.set, List.length_cons, List.length_nil, List.replicate, List.cons_append, List.nil_append, List.map_cons, List.map_nil, Nat.reduceAdd, Nat.reduceSub, Nat.zero_add, Nat.sub_self, Option.map, Option.some.injEq, List.filterMap_cons, List.filterMap_nil, List.getElem?_cons_zero, List.getElem?_cons_succ, at0, at1, at2, true_and, and_true, eq_self, true_implies, reduceCtorEq, false_implies, implies_true, Bool.not_true, Bool.not_false, exists_eq_left, exists_eq_left'])
theorem ask_total {C : Addr} {qs : List Qo} {r : PyData} {nm : Bool} {Q : DQ} {X : XQ} {n : Nat} (hl : qs.length ≤ 10000000) (hq : ∀ q ∈ qs, IsQuo q) (n0 : 0 < n) (bt : ∀ q ∈ qs, Bt n q) (h9 : 1 + qs.length * (n + 1) ≤ 9000)
    (h : ∀ s, IsQuo s → Eqq s (sumU qs) → Bt (1 + qs.length * (n + 1)) s → Q (told (dq s))) : c_l_ask C [.val (.int 0), .val (.tuple (qs.map dq)), .val r, .val (.bool nm)] Q X := by
  refine ⟨0, _, r, nm, rfl, .inl ⟨rfl, _, rfl, by simpa [dlen] using hl, fun z => (by rw [isRow_qs hq] at z; cases z), fun qs' e hq' => ?_⟩⟩
  have e := map_dq_inj (PyData.tuple.inj e)
  subst e
  exact ⟨hq, n, n0, bt, h9, h⟩
theorem ask_weighed {C : Addr} {qs rs : List Qo} {nm : Bool} {Q : DQ} {X : XQ} {n : Nat} (hl : qs.length ≤ 10000000) (el : rs.length = qs.length) (hq : ∀ q ∈ qs, IsQuo q) (hr : ∀ q ∈ rs, IsQuo q) (n0 : 0 < n) (bt : ∀ q ∈ qs, Bt n q) (bt2 : ∀ q ∈ rs, Bt n q) (h9 : 1 + qs.length * (2 * n + 1) ≤ 9000)
    (h : ∀ s, IsQuo s → Eqq s (sumU (List.zipWith pr qs rs)) → Bt (1 + qs.length * (2 * n + 1)) s → Q (told (dq s))) : c_l_ask C [.val (.int 1), .val (.tuple (qs.map dq)), .val (.tuple (rs.map dq)), .val (.bool nm)] Q X := by
  refine ⟨1, _, _, nm, rfl, .inr (.inl ⟨rfl, _, _, rfl, by simpa [dlen] using hl, by simpa [dlen, el] using hl, fun z => (by rw [isRow_qs hq] at z; cases z), fun _ z => ?_, fun qs' rs' e1 e2 _ _ _ => ?_⟩)⟩
  · rcases z with z | z
    · rw [isRow_qs hr] at z; cases z
    · exact (z (by simp [dlen, el])).elim
  · have e1 := map_dq_inj (PyData.tuple.inj e1)
    have e2 := map_dq_inj (PyData.tuple.inj e2)
    subst e1 e2
    exact ⟨n, n0, bt, bt2, h9, h⟩
theorem ask_least {C : Addr} {qs : List Qo} {r : PyData} {nm : Bool} {Q : DQ} {X : XQ} {n : Nat} (hl : qs.length ≤ 10000000) (hn : qs ≠ []) (hq : ∀ q ∈ qs, IsQuo q) (n0 : 0 < n) (n9 : n ≤ 100000) (bt : ∀ q ∈ qs, Bt n q)
    (h : ∀ s ∈ qs, (∀ q ∈ qs, ¬ lt q s) → Q (told (dq s))) : c_l_ask C [.val (.int 2), .val (.tuple (qs.map dq)), .val r, .val (.bool nm)] Q X := by
  refine ⟨2, _, r, nm, rfl, .inr (.inr (.inl ⟨rfl, _, rfl, by simpa [dlen] using hl, fun z => ?_, fun qs' e _ _ => ?_⟩))⟩
  · rcases z with z | z
    · rw [isRow_qs hq] at z; cases z
    · exact (hn (List.length_eq_zero_iff.1 (by simpa [dlen] using z))).elim
  · have e := map_dq_inj (PyData.tuple.inj e)
    subst e
    exact ⟨n, n0, n9, bt, h⟩
theorem ask_great {C : Addr} {qs : List Qo} {r : PyData} {nm : Bool} {Q : DQ} {X : XQ} {n : Nat} (hl : qs.length ≤ 10000000) (hn : qs ≠ []) (hq : ∀ q ∈ qs, IsQuo q) (n0 : 0 < n) (n9 : n ≤ 100000) (bt : ∀ q ∈ qs, Bt n q)
    (h : ∀ s ∈ qs, (∀ q ∈ qs, ¬ gt q s) → Q (told (dq s))) : c_l_ask C [.val (.int 3), .val (.tuple (qs.map dq)), .val r, .val (.bool nm)] Q X := by
  refine ⟨3, _, r, nm, rfl, .inr (.inr (.inr ⟨rfl, _, rfl, by simpa [dlen] using hl, fun z => ?_, fun qs' e _ _ => ?_⟩))⟩
  · rcases z with z | z
    · rw [isRow_qs hq] at z; cases z
    · exact (hn (List.length_eq_zero_iff.1 (by simpa [dlen] using z))).elim
  · have e := map_dq_inj (PyData.tuple.inj e)
    subst e
    exact ⟨n, n0, n9, bt, h⟩
theorem pr_one : ∀ {ls : List Qo}, List.zipWith pr ls (List.replicate ls.length (1, 1)) = ls
  | [] => rfl
  | q :: ls => by
    rw [List.length_cons, List.replicate_succ, List.zipWith_cons_cons, pr_one]
    simp [pr]
theorem pr_comm : ∀ {ls rs : List Qo}, List.zipWith pr rs ls = List.zipWith pr ls rs
  | [], [] => rfl
  | [], _ :: _ => rfl
  | _ :: _, [] => rfl
  | q :: ls, r :: rs => by
    rw [List.zipWith_cons_cons, List.zipWith_cons_cons, pr_comm]
    simp [pr, Int.mul_comm]
theorem pr_rev {ls rs : List Qo} (h : rs.length = ls.length) : sumU (List.zipWith pr rs.reverse ls.reverse) = sumU (List.zipWith pr ls rs) := by
  rw [← List.reverse_zipWith h, pr_comm]
  exact sumU_perm (List.reverse_perm _)
theorem ones_map (n : Nat) : (List.replicate n [PyData.tuple [PyData.int 1, PyData.int 1]]).flatten = (List.replicate n ((1 : Int), (1 : Int))).map dq := by
  induction n with
  | zero => rfl
  | succ n ih => rw [List.replicate_succ, List.flatten_cons, ih, List.replicate_succ]; rfl
theorem ok_told : PyData.canLay0 (.str "told") = true := by decide +kernel
theorem shp_tq (q : Qo) : SeqAt.shaped (told (dq q)) = true := by
  unfold told dq
  simp [SeqAt.shaped, PyData.canLay0, PyData.depth, PyData.canLayAll0, PyData.depthAll]
  exact ok_told
theorem eqv_tq (q : Qo) : PyData.eqv (told (dq q)) (told (dq q)) = true := by
  unfold told dq
  simp [PyData.eqv, PyData.eqvAll]
theorem r_law (C : Addr) : ∀ (Qd : DQ) (Xd : XQ), Qd (.bool true) → w_law C (endsOf Qd Xd) [.un, .pool, .un, .un, .un, .un, .un, .un, .un, .un] := by
  intro Qd Xd h
  unfold w_law
  refine sq_i ?_
  walk_at "hw"
  refine tk_i (by decide) (by decide) fun r r0 r1 => ?_
  simp only [shp_int, eqv_int, true_and]
  refine sq_i ?_
  generalize decide (r = 1) = nm
  walk_at "hw"
  refine ⟨rfl, fun ls rs k R => ?_⟩
  refine sq_i ?_
  walk_at "hw"
  have l40 := R.l40
  have el := R.len
  have ql : ∀ q ∈ ls, IsQuo q := fun q hq => (R.ql q hq).1
  have qr : ∀ q ∈ rs, IsQuo q := fun q hq => (R.qr q hq).1
  have bl : ∀ q ∈ ls, Bt (bk k) q := fun q hq => (R.ql q hq).2
  have br : ∀ q ∈ rs, Bt (bk k) q := fun q hq => (R.qr q hq).2
  have n0 : 0 < bk k := by unfold bk; split <;> try split
                           all_goals decide
  have n1 : bk k ≤ 1000 := by unfold bk; split <;> try split
                              all_goals decide
  have h9 := R.n
  have h91 : ls.length * (bk k + 1) ≤ ls.length * (2 * bk k + 1) := Nat.mul_le_mul_left _ (by omega)
  have w1 : 1 ≤ 16777216 := by decide
  have w2 : 2 ≤ 16777216 := by decide
  refine sq_i ?_
  walk_at "hw"
  refine sq_i ?_
  walk_at "hw"
  refine ⟨w2, w1, by omega, by rw [List.length_map]; omega, by rw [List.length_map]; omega, ?_⟩
  rw [Int.toNat_natCast, List.length_map, ones_map]
  have o1 : ∀ q ∈ List.replicate ls.length ((1 : Int), (1 : Int)), Bt (bk k) q := fun q hq => by
    rw [List.eq_of_mem_replicate hq]
    exact Bt.mono (m := 1) (by decide) n0
  have lO : (List.replicate ls.length ((1 : Int), (1 : Int))).length = ls.length := List.length_replicate
  have bd : ∀ {s : Qo}, Bt (1 + ls.length * (bk k + 1)) s → Bt 10000 s := fun b => b.mono (by omega)
  have bd2 : ∀ {s : Qo}, Bt (1 + ls.length * (2 * bk k + 1)) s → Bt 10000 s := fun b => b.mono (by omega)
  refine sq_i ?_
  walk_at "hw"
  refine And.intro (by decide) (ask_total (by omega) ql n0 bl (by omega) fun s qs es bs => ?_)
  refine sq_i ?_
  walk_at "hw"
  refine ask_weighed (by omega) el ql qr n0 bl br (by omega) fun t qt et bt => ?_
  refine sq_i ?_
  walk_at "hw"
  refine ⟨ls, _, s, bk k, rfl, lO, qs, by rw [pr_one]; exact es, n0, bl, o1, l40, by omega, bd bs, ?_⟩
  refine ⟨fun z => Bool.noConfusion z, fun _ => ?_⟩
  refine ⟨ls, rs, t, bk k, rfl, el, qt, et, n0, bl, br, l40, by omega, bd2 bt, ?_⟩
  refine ⟨fun z => Bool.noConfusion z, fun _ => ?_⟩
  refine sq_i ?_
  walk_at "hw"
  have h92 : rs.length * (bk k + 1) = ls.length * (bk k + 1) := by rw [el]
  refine And.intro (by decide) (ask_total (by omega) qr n0 br (by omega) fun s1 qs1 es1 bs1 => ?_)
  rw [el] at bs1
  refine ⟨rs, _, s1, bk k, rfl, by rw [lO, el], qs1, by rw [← el, pr_one]; exact es1, n0, br, o1, by omega, by rw [el]; omega, bd bs1, ?_⟩
  refine ⟨fun z => Bool.noConfusion z, fun _ => ?_⟩
  refine sq_i ?_
  walk_at "hw"
  refine ask_weighed (by omega) rfl ql ql n0 bl bl (by omega) fun t1 qt1 et1 bt1 => ?_
  refine ⟨ls, ls, t1, bk k, rfl, rfl, qt1, et1, n0, bl, bl, l40, by omega, bd2 bt1, ?_⟩
  refine ⟨fun z => Bool.noConfusion z, fun _ => ?_⟩
  refine sq_i ?_
  walk_at "hw"
  rw [← List.map_reverse, ← List.map_reverse]
  refine ask_weighed (by rw [List.length_reverse]; omega) (by rw [List.length_reverse, List.length_reverse, el]) (fun q hq => qr q (List.mem_reverse.1 hq)) (fun q hq => ql q (List.mem_reverse.1 hq)) n0 (fun q hq => br q (List.mem_reverse.1 hq)) (fun q hq => bl q (List.mem_reverse.1 hq)) (by rw [List.length_reverse, el]; omega) fun t2 qt2 et2 bt2 => ?_
  rw [pr_rev el] at et2
  have pz := zip_mem (fun q hq => (ql q hq).1) (fun q hq => (qr q hq).1)
  have e2 : t2 = t := eqq_uniq qt2 qt (by have := sumU_pos (u := (0, 1)) (qs := List.zipWith pr ls rs) (by decide) fun q h => by have := pz q h; omega
                                          unfold sumU; omega) et2 et
  subst e2
  refine ⟨shp_tq _, shp_tq _, fun z => (by rw [eqv_tq] at z; cases z), fun _ => ?_⟩
  have rest : wSeq
      (wIfS (Hw.wNot (wTst (wCall 4 (c_l_refused C) (aPool 1 (aCons (wVar 4) (aCons (wVar 5) (aCons (wVar 2) aNil))))))) (wRet (wC (.bool false))) wNext)
      (wSeq (wAsg 9 (wOp fAdd (wVar 4) (wVar 5)))
  (wSeq (wIfS (wTst (wOp fEq (wCB fLen (aCons (wVar 9) aNil)) (wC (.int 0))))
  (wRet (wC (.bool true)))
  wNext)
  (wSeq (wIfS (Hw.wNot (wTst (wCall 3 c_l_end (aCons (wVar 9) (aCons (wCall 4 (c_l_ask C) (aCons (wC (.int 2)) (aCons (wCB fTupOf (aCons (wVar 9) aNil)) (aCons (wTup aNil) (aCons (wVar 2) aNil))))) (aCons (wC (.int 1)) aNil))))))
  (wRet (wC (.bool false)))
  wNext)
  (wSeq (wIfS (Hw.wNot (wTst (wCall 3 c_l_end (aCons (wVar 9) (aCons (wCall 4 (c_l_ask C) (aCons (wC (.int 3)) (aCons (wCB fTupOf (aCons (wVar 9) aNil)) (aCons (wTup aNil) (aCons (vNot (wVar 2)) aNil))))) (aCons (wUn fNeg (wC (.int 1))) aNil))))))
  (wRet (wC (.bool false)))
  wNext)
  (wSeq (wIfS (Hw.wNot (wTst (wCall 3 c_l_end (aCons (wVar 5) (aCons (wCall 4 (c_l_ask C) (aCons (wC (.int 2)) (aCons (wCB fTupOf (aCons (wVar 5) aNil)) (aCons (wTup aNil) (aCons (vNot (wVar 2)) aNil))))) (aCons (wC (.int 1)) aNil))))))
  (wRet (wC (.bool false)))
  wNext)
  (wRet (vAnd (wCall 3 c_l_end (aCons (wVar 4) (aCons (wCall 4 (c_l_ask C) (aCons (wC (.int 3)) (aCons (wCB fTupOf (aCons (wVar 4) aNil)) (aCons (wTup aNil) (aCons (wVar 2) aNil))))) (aCons (wUn fNeg (wC (.int 1))) aNil)))) (wCall 2 (c_l_ordered C) (aCons (wVar 9) (aPool 1 aNil)))))))))) (endsOf Qd Xd)
      [.un, .pool, .val (.bool nm), .val (.list [.list (ls.map dq), .list (rs.map dq), .int k]), .val (.list (ls.map dq)), .val (.list (rs.map dq)), .val (.list (List.map dq (List.replicate ls.length (1, 1)))), .val (told (dq s)), .val (told (dq t2)), .un] := by
    refine sq_i ?_
    walk_at "hw"
    refine ⟨ls, rs, k, nm, rfl, R, ⟨fun z => Bool.noConfusion z, fun _ => ?_⟩⟩
    refine sq_i ?_
    walk_at "hw"
    rw [← List.map_append]
    refine ⟨by rw [List.length_map, List.length_map]; omega, ?_⟩
    have qa : ∀ q ∈ ls ++ rs, IsQuo q := fun q hq => (List.mem_append.1 hq).elim (ql q) (qr q)
    have ba : ∀ q ∈ ls ++ rs, Bt 1000 q := fun q hq => ((List.mem_append.1 hq).elim (bl q) (br q)).mono n1
    have bl1 : ∀ q ∈ ls, Bt 1000 q := fun q hq => (bl q hq).mono n1
    have br1 : ∀ q ∈ rs, Bt 1000 q := fun q hq => (br q hq).mono n1
    have la : (ls ++ rs).length ≤ 80 := by rw [List.length_append]; omega
    refine sq_i ?_
    walk_at "hw"
    simp only [shp_int, eqv_int, true_and]
    refine ⟨fun _ => h, fun hz => ?_⟩
    have hz : 0 < ls.length := by
      have hz := of_decide_eq_false hz
      rw [List.length_map, List.length_append] at hz
      omega
    have nl : ls ≠ [] := List.length_pos_iff.1 hz
    have nr : rs ≠ [] := List.length_pos_iff.1 (by omega)
    have na : ls ++ rs ≠ [] := by simp [nl]
    refine sq_i ?_
    walk_at "hw"
    refine And.intro (by decide) (ask_least (n := 1000) (by omega) na qa (by decide) (by decide) ba fun e me he => ?_)
    refine ⟨ls ++ rs, e, 1, rfl, .inl rfl, la, ba, qa e me, me, he, ⟨fun z => Bool.noConfusion z, fun _ => ?_⟩⟩
    refine sq_i ?_
    walk_at "hw"
    refine And.intro (by decide) (ask_great (n := 1000) (by omega) na qa (by decide) (by decide) ba fun e me he => ?_)
    refine ⟨ls ++ rs, e, -1, rfl, .inr rfl, la, ba, qa e me, me, he, ⟨fun z => Bool.noConfusion z, fun _ => ?_⟩⟩
    refine sq_i ?_
    walk_at "hw"
    refine And.intro (by decide) (ask_least (n := 1000) (by omega) nr qr (by decide) (by decide) br1 fun e me he => ?_)
    refine ⟨rs, e, 1, rfl, .inl rfl, by omega, br1, qr e me, me, he, ⟨fun z => Bool.noConfusion z, fun _ => ?_⟩⟩
    refine And.intro (by decide) (ask_great (n := 1000) (by omega) nl ql (by decide) (by decide) bl1 fun e me he => ?_)
    refine ⟨ls, e, -1, rfl, .inr rfl, by omega, bl1, ql e me, me, he, ?_⟩
    refine And.intro (fun _ => ⟨ls ++ rs, rfl, na, la, fun q hq => ⟨qa q hq, ba q hq⟩, h⟩) (fun z => Bool.noConfusion z)
  refine sq_i ?_
  walk_at "hw"
  refine ⟨rfl, rfl, fun hk => ?_, fun _ => rest⟩
  rw [eqv_int] at hk
  have hk := of_decide_eq_true hk
  subst hk
  refine Exists.intro _ (And.intro rfl (Exists.intro _ (And.intro rfl ⟨ls, rs, s, t2, rfl, R, qs, es, qt, et, ⟨fun z => Bool.noConfusion z, fun _ => rest⟩⟩)))
end K01
-- K01o
set_option Elab.async false
set_option linter.all false
set_option maxRecDepth 100000
set_option maxHeartbeats 4000000
open PySem L2
namespace K01
open Hw
/-- the law: true, of any list of ints -/
def spLaw (K : PySem.W.Frag) : Sp := fun vs H Q _ => ∃ (a : Addr) (ns : List Int), vs = [.ref a] ∧ SqL K H a (ns.map V.int) ∧ ∀ H', Q (.bl true) H'
abbrev sIni : Stmt := inClass (topS 4) 0
theorem scIni : FnScope ["self", "word", "at"] ["self", "word", "at"] (defScope sIni) := ⟨rfl, rfl, rfl, by decide +kernel, rfl, by decide +kernel, by decide +kernel⟩
section
variable {P : Program} {w : World} {K : PySem.W.Frag} {mg : Str → Option Value} {base : Heap} {C fI : Addr} {fdI : FuncData}
theorem f_ini (T : OexC K C) (n1 : PySem.W.findIn K (.ref C) "word" = some none) (n2 : PySem.W.findIn K (.ref C) "at" = some none) (F : Fun K "__init__" "NotUsable.__init__" sIni fI fdI) : FnOk P w K mg base (L2N.CX P w) 1 fI fdI ["self", "word", "at"] (spIni C "word" "at") :=
  ini_ok T n1 n2 F scIni rfl rfl fun cdv A outer s H E => pss_cons (ps_ost (pv 0) (pv 1)) (pss_one (ps_ost (pv 0) (pv 2)))
theorem f_law {a_law a_l_pool : Addr} {fd_law fd_l_pool : FuncData} (F : Fun K "law" "law" s_law a_law fd_law) (HP : FnOk P w K mg base (L2N.CX P w) 1 a_l_pool fd_l_pool ["_law_script"] (spPool K)) (mP : mg "_law_pool" = some (.ref a_l_pool)) (kP : PySem.W.keepIn K (.ref a_l_pool) = true) (bP : Binds K fd_l_pool ["_law_script"] [])
    (hd : ∀ (cdv : Value) (A : Around) (outer : List Env) (s : Shared) (H : Hp) (E : XK), Room 6 (cxOf (L2N.CX P w) P w K mg base N_law "law" (defScope s_law) a_law cdv A outer s H E).A → L2N.Takes (cxOf (L2N.CX P w) P w K mg base N_law "law" (defScope s_law) a_law cdv A outer s H E) (fun cls d _ H => E cls d H) →
      PSsd (cxOf (L2N.CX P w) P w K mg base N_law "law" (defScope s_law) a_law cdv A outer s H E) (fun cls d _ H => E cls d H) (defBody s_law).tail (w_law C)) : FnOk P w K mg base (L2N.CX P w) 7 a_law fd_law ["_law_script"] (spLaw K) := by
  obtain ⟨oc, od, kV, doc, pm, an, cdv, ct, osl, rfl, lk, hcd⟩ := F.ex
  refine fn_of lk hcd sc_law (fun vs H Q E h => by obtain ⟨a, ns, rfl, _⟩ := h; rfl) fun A outer s H vs Q E hr h => ?_
  obtain ⟨a, ns, rfl, hs, k⟩ := h
  have tk := L2N.takes_of (X := cxOf (L2N.CX P w) P w K mg base N_law "law" (defScope s_law) a_law cdv A outer s H E) rfl rfl rfl rfl
  refine ⟨_, pss_cons (ps_set (i := 1) sc_law.nd rfl (Or.inl rfl) (pe_callS HP (hr.mono (by decide)) (by rfl) mP kP bP (fun σ => L2N.passAt tk σ) (pa_cons (pv 0) pa_nil))) (hd cdv A outer s H E hr tk), ?_⟩
  refine ⟨.ref a, rfl, a, ns, rfl, hs, fun p l seed n hl hp ne => ?_⟩
  refine ⟨⟨fun _ => none, fun _ => none, [], some (p, l)⟩, fun _ => none, [.un, .pool, .un, .un, .un, .un, .un, .un, .un, .un], endsOf (fun d => d = .bool true) (fun _ => False), ⟨?_, rfl, ?_, ?_⟩, r_law C _ _ rfl, ?_⟩
  · exact {
      fh := fun a o z => by cases z
      f0 := fun a o z => by cases z
      fresh := fun a o z => by cases z
      keep := fun a o z => by cases z
      dom := fun _ _ => rfl
      pool := fun p' l' e => by
        cases e
        exact ⟨⟨rfl, rfl, ne, 0, 0, seed, n, ns, upd_same, by rw [upd_ne ne.symm, upd_same]⟩, .inr rfl, .inr rfl⟩ }
  · intro i s' hs'
    match i, hs' with
    | 0, e => cases e; exact True.intro
    | 1, e => cases e; exact ⟨p, l, rfl, rfl⟩
    | 2, e => cases e; exact True.intro
    | 3, e => cases e; exact True.intro
    | 4, e => cases e; exact True.intro
    | 5, e => cases e; exact True.intro
    | 6, e => cases e; exact True.intro
    | 7, e => cases e; exact True.intro
    | 8, e => cases e; exact True.intro
    | 9, e => cases e; exact True.intro
    | n + 10, e => cases e
  · intro i j xs ys ad h1 h2 h3 h4
    match i, h1 with
    | 0, e => cases e
    | 1, e => cases e
    | 2, e => cases e
    | 3, e => cases e
    | 4, e => cases e
    | 5, e => cases e
    | 6, e => cases e
    | 7, e => cases e
    | 8, e => cases e
    | 9, e => cases e
    | n + 10, e => cases e
  · exact ⟨fun σ' H' F' env' so _ q => (by cases q), fun _ _ _ _ _ _ z => z.elim, fun _ _ _ _ _ _ z => z.elim, fun v H' F' d fo hv q => (by cases q; rw [dp_bl hv]; exact k H'), fun cc dd σ' H' F' env' x so _ hx' q => q.elim⟩
end
end K01
-- K01z
set_option Elab.async false
set_option linter.all false
set_option maxRecDepth 100000
set_option maxHeartbeats 4000000
open PySem L2
namespace K01
open Hw
theorem exm_of {K : PySem.W.Frag} {S : Addr} (h1 : PySem.W.subIn K (.ref S) (.type "BaseException") = some true) (h2 : PySem.W.isClsIn K S = true) (h3 : PySem.W.typeIn K (.ref S) = some (.type "type")) (h4 : PySem.W.subIn K (.ref S) (.ref S) = some true) : PySem.W.exmOne K (.ref S) (.ref S) = some true := by
  have h2' : (PySem.W.clsIn K S).isSome = true := h2
  unfold PySem.W.exmOne PySem.W.kitCls
  simp [h1, h2', h3, h4]
theorem all_mk {P : Program} {w : World} {K : PySem.W.Frag} {h : Heap} {mg : Str → Option Value} {fa C fI : Addr} (X : K.In h) (G : h.Ns mainGlobals mg) (hfa : mg "law" = some (.ref fa))
    {nm q : Str} {N : Addr} {bs bm : List Value} {sn : List Str} {sub : List Value} {ab : Bool} {col : Option Bool} {dd : Option Addr} {m0 m1 m2 m3 m5 : Option Value}
    {odI anI : Option Addr} {slI : Array (Option Value)} {ocI kVI dcI pmI cdI ctI : Value}
    (aC : PySem.W.nsIn K mainGlobals "NotUsable" = some (some (.ref C)))
    (xL : K.lookup C = some (excClassObj nm q C N bs bm true sn sub ab col dd m0 m1 m2 m3 m5 "ValueError.__new__")) (xM : PySem.HandSPX.refsVE bm = true)
    (sa : PySem.W.findIn K (.ref C) "__setattr__" = some (some (.builtin "object.__setattr__"))) (ga : PySem.W.findIn K (.ref C) "__getattribute__" = some (some (.builtin "BaseException.__getattribute__"))) (gg : PySem.W.findIn K (.ref C) "__getattr__" = some none)
    (nw : PySem.W.findIn K (.ref C) "word" = some none) (na : PySem.W.findIn K (.ref C) "at" = some none)
    (a1 : PySem.W.findIn K (.ref C) "__init__" = some (some (.ref fI))) (t1 : PySem.W.typeIn K (.ref fI) = some (.type "function"))
    (l1 : K.lookup fI = some ⟨ocI, odI, .func (PySem.W.fnOf "__init__" "NotUsable.__init__" (defArgs sIni) (defBody sIni) (defScope sIni) .none kVI dcI pmI anI cdI ctI), slI⟩) (c1 : PySem.W.codeIn K cdI "NotUsable.__init__" = true) (k1 : PySem.W.keepIn K (.ref fI) = true)
    (kC : PySem.W.keepIn K (.ref C) = true) (eC : PySem.W.subIn K (.ref C) (.type "BaseException") = some true) (tC : PySem.W.typeIn K (.ref C) = some (.type "type")) (hC : PySem.W.hasDictIn K C = true) (iC : PySem.W.isClsIn K C = true) (sC : PySem.W.subIn K (.ref C) (.ref C) = some true)
    (aG : PySem.W.nsIn K mainGlobals "gcd" = some (some (.builtin "math.gcd")))
    (z_abs : PySem.W.nsIn K mainGlobals "abs" = some none)
    (z_all : PySem.W.nsIn K mainGlobals "all" = some none)
    (z_bool : PySem.W.nsIn K mainGlobals "bool" = some none)
    (z_int : PySem.W.nsIn K mainGlobals "int" = some none)
    (z_isinstance : PySem.W.nsIn K mainGlobals "isinstance" = some none)
    (z_len : PySem.W.nsIn K mainGlobals "len" = some none)
    (z_list : PySem.W.nsIn K mainGlobals "list" = some none)
    (z_range : PySem.W.nsIn K mainGlobals "range" = some none)
    (z_str : PySem.W.nsIn K mainGlobals "str" = some none)
    (z_tuple : PySem.W.nsIn K mainGlobals "tuple" = some none)
    (z_zip : PySem.W.nsIn K mainGlobals "zip" = some none)
    {a_need : Addr} {od_need an_need : Option Addr} {sl_need : Array (Option Value)} {oc_need kV_need dc_need pm_need cd_need ct_need : Value}
    (A_need : PySem.W.nsIn K mainGlobals "need" = some (some (.ref a_need))) (L_need : K.lookup a_need = some ⟨oc_need, od_need, .func (PySem.W.fnOf "need" "need" (defArgs s_need) (defBody s_need) (defScope s_need) .none kV_need dc_need pm_need an_need cd_need ct_need), sl_need⟩) (C_need : PySem.W.codeIn K cd_need "need" = true) (K_need : PySem.W.keepIn K (.ref a_need) = true)
    {a_is_integer : Addr} {od_is_integer an_is_integer : Option Addr} {sl_is_integer : Array (Option Value)} {oc_is_integer kV_is_integer dc_is_integer pm_is_integer cd_is_integer ct_is_integer : Value}
    (A_is_integer : PySem.W.nsIn K mainGlobals "is_integer" = some (some (.ref a_is_integer))) (L_is_integer : K.lookup a_is_integer = some ⟨oc_is_integer, od_is_integer, .func (PySem.W.fnOf "is_integer" "is_integer" (defArgs s_is_integer) (defBody s_is_integer) (defScope s_is_integer) .none kV_is_integer dc_is_integer pm_is_integer an_is_integer cd_is_integer ct_is_integer), sl_is_integer⟩) (C_is_integer : PySem.W.codeIn K cd_is_integer "is_integer" = true) (K_is_integer : PySem.W.keepIn K (.ref a_is_integer) = true)
    {a_is_quotient : Addr} {od_is_quotient an_is_quotient : Option Addr} {sl_is_quotient : Array (Option Value)} {oc_is_quotient kV_is_quotient dc_is_quotient pm_is_quotient cd_is_quotient ct_is_quotient : Value}
    (A_is_quotient : PySem.W.nsIn K mainGlobals "is_quotient" = some (some (.ref a_is_quotient))) (L_is_quotient : K.lookup a_is_quotient = some ⟨oc_is_quotient, od_is_quotient, .func (PySem.W.fnOf "is_quotient" "is_quotient" (defArgs s_is_quotient) (defBody s_is_quotient) (defScope s_is_quotient) .none kV_is_quotient dc_is_quotient pm_is_quotient an_is_quotient cd_is_quotient ct_is_quotient), sl_is_quotient⟩) (C_is_quotient : PySem.W.codeIn K cd_is_quotient "is_quotient" = true) (K_is_quotient : PySem.W.keepIn K (.ref a_is_quotient) = true)
    {a_is_row : Addr} {od_is_row an_is_row : Option Addr} {sl_is_row : Array (Option Value)} {oc_is_row kV_is_row dc_is_row pm_is_row cd_is_row ct_is_row : Value}
    (A_is_row : PySem.W.nsIn K mainGlobals "is_row" = some (some (.ref a_is_row))) (L_is_row : K.lookup a_is_row = some ⟨oc_is_row, od_is_row, .func (PySem.W.fnOf "is_row" "is_row" (defArgs s_is_row) (defBody s_is_row) (defScope s_is_row) .none kV_is_row dc_is_row pm_is_row an_is_row cd_is_row ct_is_row), sl_is_row⟩) (C_is_row : PySem.W.codeIn K cd_is_row "is_row" = true) (K_is_row : PySem.W.keepIn K (.ref a_is_row) = true)
    {a_reduced : Addr} {od_reduced an_reduced : Option Addr} {sl_reduced : Array (Option Value)} {oc_reduced kV_reduced dc_reduced pm_reduced cd_reduced ct_reduced : Value}
    (A_reduced : PySem.W.nsIn K mainGlobals "reduced" = some (some (.ref a_reduced))) (L_reduced : K.lookup a_reduced = some ⟨oc_reduced, od_reduced, .func (PySem.W.fnOf "reduced" "reduced" (defArgs s_reduced) (defBody s_reduced) (defScope s_reduced) .none kV_reduced dc_reduced pm_reduced an_reduced cd_reduced ct_reduced), sl_reduced⟩) (C_reduced : PySem.W.codeIn K cd_reduced "reduced" = true) (K_reduced : PySem.W.keepIn K (.ref a_reduced) = true)
    {a_sum_of_two : Addr} {od_sum_of_two an_sum_of_two : Option Addr} {sl_sum_of_two : Array (Option Value)} {oc_sum_of_two kV_sum_of_two dc_sum_of_two pm_sum_of_two cd_sum_of_two ct_sum_of_two : Value}
    (A_sum_of_two : PySem.W.nsIn K mainGlobals "sum_of_two" = some (some (.ref a_sum_of_two))) (L_sum_of_two : K.lookup a_sum_of_two = some ⟨oc_sum_of_two, od_sum_of_two, .func (PySem.W.fnOf "sum_of_two" "sum_of_two" (defArgs s_sum_of_two) (defBody s_sum_of_two) (defScope s_sum_of_two) .none kV_sum_of_two dc_sum_of_two pm_sum_of_two an_sum_of_two cd_sum_of_two ct_sum_of_two), sl_sum_of_two⟩) (C_sum_of_two : PySem.W.codeIn K cd_sum_of_two "sum_of_two" = true) (K_sum_of_two : PySem.W.keepIn K (.ref a_sum_of_two) = true)
    {a_product_of_two : Addr} {od_product_of_two an_product_of_two : Option Addr} {sl_product_of_two : Array (Option Value)} {oc_product_of_two kV_product_of_two dc_product_of_two pm_product_of_two cd_product_of_two ct_product_of_two : Value}
    (A_product_of_two : PySem.W.nsIn K mainGlobals "product_of_two" = some (some (.ref a_product_of_two))) (L_product_of_two : K.lookup a_product_of_two = some ⟨oc_product_of_two, od_product_of_two, .func (PySem.W.fnOf "product_of_two" "product_of_two" (defArgs s_product_of_two) (defBody s_product_of_two) (defScope s_product_of_two) .none kV_product_of_two dc_product_of_two pm_product_of_two an_product_of_two cd_product_of_two ct_product_of_two), sl_product_of_two⟩) (C_product_of_two : PySem.W.codeIn K cd_product_of_two "product_of_two" = true) (K_product_of_two : PySem.W.keepIn K (.ref a_product_of_two) = true)
    {a_lies_below : Addr} {od_lies_below an_lies_below : Option Addr} {sl_lies_below : Array (Option Value)} {oc_lies_below kV_lies_below dc_lies_below pm_lies_below cd_lies_below ct_lies_below : Value}
    (A_lies_below : PySem.W.nsIn K mainGlobals "lies_below" = some (some (.ref a_lies_below))) (L_lies_below : K.lookup a_lies_below = some ⟨oc_lies_below, od_lies_below, .func (PySem.W.fnOf "lies_below" "lies_below" (defArgs s_lies_below) (defBody s_lies_below) (defScope s_lies_below) .none kV_lies_below dc_lies_below pm_lies_below an_lies_below cd_lies_below ct_lies_below), sl_lies_below⟩) (C_lies_below : PySem.W.codeIn K cd_lies_below "lies_below" = true) (K_lies_below : PySem.W.keepIn K (.ref a_lies_below) = true)
    {a_need_two : Addr} {od_need_two an_need_two : Option Addr} {sl_need_two : Array (Option Value)} {oc_need_two kV_need_two dc_need_two pm_need_two cd_need_two ct_need_two : Value}
    (A_need_two : PySem.W.nsIn K mainGlobals "need_two" = some (some (.ref a_need_two))) (L_need_two : K.lookup a_need_two = some ⟨oc_need_two, od_need_two, .func (PySem.W.fnOf "need_two" "need_two" (defArgs s_need_two) (defBody s_need_two) (defScope s_need_two) .none kV_need_two dc_need_two pm_need_two an_need_two cd_need_two ct_need_two), sl_need_two⟩) (C_need_two : PySem.W.codeIn K cd_need_two "need_two" = true) (K_need_two : PySem.W.keepIn K (.ref a_need_two) = true)
    {a_plus : Addr} {od_plus an_plus : Option Addr} {sl_plus : Array (Option Value)} {oc_plus kV_plus dc_plus pm_plus cd_plus ct_plus : Value}
    (A_plus : PySem.W.nsIn K mainGlobals "plus" = some (some (.ref a_plus))) (L_plus : K.lookup a_plus = some ⟨oc_plus, od_plus, .func (PySem.W.fnOf "plus" "plus" (defArgs s_plus) (defBody s_plus) (defScope s_plus) .none kV_plus dc_plus pm_plus an_plus cd_plus ct_plus), sl_plus⟩) (C_plus : PySem.W.codeIn K cd_plus "plus" = true) (K_plus : PySem.W.keepIn K (.ref a_plus) = true)
    {a_times : Addr} {od_times an_times : Option Addr} {sl_times : Array (Option Value)} {oc_times kV_times dc_times pm_times cd_times ct_times : Value}
    (A_times : PySem.W.nsIn K mainGlobals "times" = some (some (.ref a_times))) (L_times : K.lookup a_times = some ⟨oc_times, od_times, .func (PySem.W.fnOf "times" "times" (defArgs s_times) (defBody s_times) (defScope s_times) .none kV_times dc_times pm_times an_times cd_times ct_times), sl_times⟩) (C_times : PySem.W.codeIn K cd_times "times" = true) (K_times : PySem.W.keepIn K (.ref a_times) = true)
    {a_is_less : Addr} {od_is_less an_is_less : Option Addr} {sl_is_less : Array (Option Value)} {oc_is_less kV_is_less dc_is_less pm_is_less cd_is_less ct_is_less : Value}
    (A_is_less : PySem.W.nsIn K mainGlobals "is_less" = some (some (.ref a_is_less))) (L_is_less : K.lookup a_is_less = some ⟨oc_is_less, od_is_less, .func (PySem.W.fnOf "is_less" "is_less" (defArgs s_is_less) (defBody s_is_less) (defScope s_is_less) .none kV_is_less dc_is_less pm_is_less an_is_less cd_is_less ct_is_less), sl_is_less⟩) (C_is_less : PySem.W.codeIn K cd_is_less "is_less" = true) (K_is_less : PySem.W.keepIn K (.ref a_is_less) = true)
    {a_sum_of_row : Addr} {od_sum_of_row an_sum_of_row : Option Addr} {sl_sum_of_row : Array (Option Value)} {oc_sum_of_row kV_sum_of_row dc_sum_of_row pm_sum_of_row cd_sum_of_row ct_sum_of_row : Value}
    (A_sum_of_row : PySem.W.nsIn K mainGlobals "sum_of_row" = some (some (.ref a_sum_of_row))) (L_sum_of_row : K.lookup a_sum_of_row = some ⟨oc_sum_of_row, od_sum_of_row, .func (PySem.W.fnOf "sum_of_row" "sum_of_row" (defArgs s_sum_of_row) (defBody s_sum_of_row) (defScope s_sum_of_row) .none kV_sum_of_row dc_sum_of_row pm_sum_of_row an_sum_of_row cd_sum_of_row ct_sum_of_row), sl_sum_of_row⟩) (C_sum_of_row : PySem.W.codeIn K cd_sum_of_row "sum_of_row" = true) (K_sum_of_row : PySem.W.keepIn K (.ref a_sum_of_row) = true)
    {a_total : Addr} {od_total an_total : Option Addr} {sl_total : Array (Option Value)} {oc_total kV_total dc_total pm_total cd_total ct_total : Value}
    (A_total : PySem.W.nsIn K mainGlobals "total" = some (some (.ref a_total))) (L_total : K.lookup a_total = some ⟨oc_total, od_total, .func (PySem.W.fnOf "total" "total" (defArgs s_total) (defBody s_total) (defScope s_total) .none kV_total dc_total pm_total an_total cd_total ct_total), sl_total⟩) (C_total : PySem.W.codeIn K cd_total "total" = true) (K_total : PySem.W.keepIn K (.ref a_total) = true)
    {a_weighed : Addr} {od_weighed an_weighed : Option Addr} {sl_weighed : Array (Option Value)} {oc_weighed kV_weighed dc_weighed pm_weighed cd_weighed ct_weighed : Value}
    (A_weighed : PySem.W.nsIn K mainGlobals "weighed" = some (some (.ref a_weighed))) (L_weighed : K.lookup a_weighed = some ⟨oc_weighed, od_weighed, .func (PySem.W.fnOf "weighed" "weighed" (defArgs s_weighed) (defBody s_weighed) (defScope s_weighed) .none kV_weighed dc_weighed pm_weighed an_weighed cd_weighed ct_weighed), sl_weighed⟩) (C_weighed : PySem.W.codeIn K cd_weighed "weighed" = true) (K_weighed : PySem.W.keepIn K (.ref a_weighed) = true)
    {a_least_of : Addr} {od_least_of an_least_of : Option Addr} {sl_least_of : Array (Option Value)} {oc_least_of kV_least_of dc_least_of pm_least_of cd_least_of ct_least_of : Value}
    (A_least_of : PySem.W.nsIn K mainGlobals "least_of" = some (some (.ref a_least_of))) (L_least_of : K.lookup a_least_of = some ⟨oc_least_of, od_least_of, .func (PySem.W.fnOf "least_of" "least_of" (defArgs s_least_of) (defBody s_least_of) (defScope s_least_of) .none kV_least_of dc_least_of pm_least_of an_least_of cd_least_of ct_least_of), sl_least_of⟩) (C_least_of : PySem.W.codeIn K cd_least_of "least_of" = true) (K_least_of : PySem.W.keepIn K (.ref a_least_of) = true)
    {a_greatest_of : Addr} {od_greatest_of an_greatest_of : Option Addr} {sl_greatest_of : Array (Option Value)} {oc_greatest_of kV_greatest_of dc_greatest_of pm_greatest_of cd_greatest_of ct_greatest_of : Value}
    (A_greatest_of : PySem.W.nsIn K mainGlobals "greatest_of" = some (some (.ref a_greatest_of))) (L_greatest_of : K.lookup a_greatest_of = some ⟨oc_greatest_of, od_greatest_of, .func (PySem.W.fnOf "greatest_of" "greatest_of" (defArgs s_greatest_of) (defBody s_greatest_of) (defScope s_greatest_of) .none kV_greatest_of dc_greatest_of pm_greatest_of an_greatest_of cd_greatest_of ct_greatest_of), sl_greatest_of⟩) (C_greatest_of : PySem.W.codeIn K cd_greatest_of "greatest_of" = true) (K_greatest_of : PySem.W.keepIn K (.ref a_greatest_of) = true)
    {a_l_mixed : Addr} {od_l_mixed an_l_mixed : Option Addr} {sl_l_mixed : Array (Option Value)} {oc_l_mixed kV_l_mixed dc_l_mixed pm_l_mixed cd_l_mixed ct_l_mixed : Value}
    (A_l_mixed : PySem.W.nsIn K mainGlobals "_law_mixed" = some (some (.ref a_l_mixed))) (L_l_mixed : K.lookup a_l_mixed = some ⟨oc_l_mixed, od_l_mixed, .func (PySem.W.fnOf "_law_mixed" "_law_mixed" (defArgs s_l_mixed) (defBody s_l_mixed) (defScope s_l_mixed) .none kV_l_mixed dc_l_mixed pm_l_mixed an_l_mixed cd_l_mixed ct_l_mixed), sl_l_mixed⟩) (C_l_mixed : PySem.W.codeIn K cd_l_mixed "_law_mixed" = true) (K_l_mixed : PySem.W.keepIn K (.ref a_l_mixed) = true)
    {a_l_pool : Addr} {od_l_pool an_l_pool : Option Addr} {sl_l_pool : Array (Option Value)} {oc_l_pool kV_l_pool dc_l_pool pm_l_pool cd_l_pool ct_l_pool : Value}
    (A_l_pool : PySem.W.nsIn K mainGlobals "_law_pool" = some (some (.ref a_l_pool))) (L_l_pool : K.lookup a_l_pool = some ⟨oc_l_pool, od_l_pool, .func (PySem.W.fnOf "_law_pool" "_law_pool" (defArgs s_l_pool) (defBody s_l_pool) (defScope s_l_pool) .none kV_l_pool dc_l_pool pm_l_pool an_l_pool cd_l_pool ct_l_pool), sl_l_pool⟩) (C_l_pool : PySem.W.codeIn K cd_l_pool "_law_pool" = true) (K_l_pool : PySem.W.keepIn K (.ref a_l_pool) = true)
    {a_l_take : Addr} {od_l_take an_l_take : Option Addr} {sl_l_take : Array (Option Value)} {oc_l_take kV_l_take dc_l_take pm_l_take cd_l_take ct_l_take : Value}
    (A_l_take : PySem.W.nsIn K mainGlobals "_law_take" = some (some (.ref a_l_take))) (L_l_take : K.lookup a_l_take = some ⟨oc_l_take, od_l_take, .func (PySem.W.fnOf "_law_take" "_law_take" (defArgs s_l_take) (defBody s_l_take) (defScope s_l_take) .none kV_l_take dc_l_take pm_l_take an_l_take cd_l_take ct_l_take), sl_l_take⟩) (C_l_take : PySem.W.codeIn K cd_l_take "_law_take" = true) (K_l_take : PySem.W.keepIn K (.ref a_l_take) = true)
    {a_l_whole : Addr} {od_l_whole an_l_whole : Option Addr} {sl_l_whole : Array (Option Value)} {oc_l_whole kV_l_whole dc_l_whole pm_l_whole cd_l_whole ct_l_whole : Value}
    (A_l_whole : PySem.W.nsIn K mainGlobals "_law_whole" = some (some (.ref a_l_whole))) (L_l_whole : K.lookup a_l_whole = some ⟨oc_l_whole, od_l_whole, .func (PySem.W.fnOf "_law_whole" "_law_whole" (defArgs s_l_whole) (defBody s_l_whole) (defScope s_l_whole) .none kV_l_whole dc_l_whole pm_l_whole an_l_whole cd_l_whole ct_l_whole), sl_l_whole⟩) (C_l_whole : PySem.W.codeIn K cd_l_whole "_law_whole" = true) (K_l_whole : PySem.W.keepIn K (.ref a_l_whole) = true)
    {a_l_common : Addr} {od_l_common an_l_common : Option Addr} {sl_l_common : Array (Option Value)} {oc_l_common kV_l_common dc_l_common pm_l_common cd_l_common ct_l_common : Value}
    (A_l_common : PySem.W.nsIn K mainGlobals "_law_common" = some (some (.ref a_l_common))) (L_l_common : K.lookup a_l_common = some ⟨oc_l_common, od_l_common, .func (PySem.W.fnOf "_law_common" "_law_common" (defArgs s_l_common) (defBody s_l_common) (defScope s_l_common) .none kV_l_common dc_l_common pm_l_common an_l_common cd_l_common ct_l_common), sl_l_common⟩) (C_l_common : PySem.W.codeIn K cd_l_common "_law_common" = true) (K_l_common : PySem.W.keepIn K (.ref a_l_common) = true)
    {a_l_low : Addr} {od_l_low an_l_low : Option Addr} {sl_l_low : Array (Option Value)} {oc_l_low kV_l_low dc_l_low pm_l_low cd_l_low ct_l_low : Value}
    (A_l_low : PySem.W.nsIn K mainGlobals "_law_low" = some (some (.ref a_l_low))) (L_l_low : K.lookup a_l_low = some ⟨oc_l_low, od_l_low, .func (PySem.W.fnOf "_law_low" "_law_low" (defArgs s_l_low) (defBody s_l_low) (defScope s_l_low) .none kV_l_low dc_l_low pm_l_low an_l_low cd_l_low ct_l_low), sl_l_low⟩) (C_l_low : PySem.W.codeIn K cd_l_low "_law_low" = true) (K_l_low : PySem.W.keepIn K (.ref a_l_low) = true)
    {a_l_quotient : Addr} {od_l_quotient an_l_quotient : Option Addr} {sl_l_quotient : Array (Option Value)} {oc_l_quotient kV_l_quotient dc_l_quotient pm_l_quotient cd_l_quotient ct_l_quotient : Value}
    (A_l_quotient : PySem.W.nsIn K mainGlobals "_law_quotient" = some (some (.ref a_l_quotient))) (L_l_quotient : K.lookup a_l_quotient = some ⟨oc_l_quotient, od_l_quotient, .func (PySem.W.fnOf "_law_quotient" "_law_quotient" (defArgs s_l_quotient) (defBody s_l_quotient) (defScope s_l_quotient) .none kV_l_quotient dc_l_quotient pm_l_quotient an_l_quotient cd_l_quotient ct_l_quotient), sl_l_quotient⟩) (C_l_quotient : PySem.W.codeIn K cd_l_quotient "_law_quotient" = true) (K_l_quotient : PySem.W.keepIn K (.ref a_l_quotient) = true)
    {a_l_stands : Addr} {od_l_stands an_l_stands : Option Addr} {sl_l_stands : Array (Option Value)} {oc_l_stands kV_l_stands dc_l_stands pm_l_stands cd_l_stands ct_l_stands : Value}
    (A_l_stands : PySem.W.nsIn K mainGlobals "_law_stands" = some (some (.ref a_l_stands))) (L_l_stands : K.lookup a_l_stands = some ⟨oc_l_stands, od_l_stands, .func (PySem.W.fnOf "_law_stands" "_law_stands" (defArgs s_l_stands) (defBody s_l_stands) (defScope s_l_stands) .none kV_l_stands dc_l_stands pm_l_stands an_l_stands cd_l_stands ct_l_stands), sl_l_stands⟩) (C_l_stands : PySem.W.codeIn K cd_l_stands "_law_stands" = true) (K_l_stands : PySem.W.keepIn K (.ref a_l_stands) = true)
    {a_l_draw : Addr} {od_l_draw an_l_draw : Option Addr} {sl_l_draw : Array (Option Value)} {oc_l_draw kV_l_draw dc_l_draw pm_l_draw cd_l_draw ct_l_draw : Value}
    (A_l_draw : PySem.W.nsIn K mainGlobals "_law_draw" = some (some (.ref a_l_draw))) (L_l_draw : K.lookup a_l_draw = some ⟨oc_l_draw, od_l_draw, .func (PySem.W.fnOf "_law_draw" "_law_draw" (defArgs s_l_draw) (defBody s_l_draw) (defScope s_l_draw) .none kV_l_draw dc_l_draw pm_l_draw an_l_draw cd_l_draw ct_l_draw), sl_l_draw⟩) (C_l_draw : PySem.W.codeIn K cd_l_draw "_law_draw" = true) (K_l_draw : PySem.W.keepIn K (.ref a_l_draw) = true)
    {a_l_rows : Addr} {od_l_rows an_l_rows : Option Addr} {sl_l_rows : Array (Option Value)} {oc_l_rows kV_l_rows dc_l_rows pm_l_rows cd_l_rows ct_l_rows : Value}
    (A_l_rows : PySem.W.nsIn K mainGlobals "_law_rows" = some (some (.ref a_l_rows))) (L_l_rows : K.lookup a_l_rows = some ⟨oc_l_rows, od_l_rows, .func (PySem.W.fnOf "_law_rows" "_law_rows" (defArgs s_l_rows) (defBody s_l_rows) (defScope s_l_rows) .none kV_l_rows dc_l_rows pm_l_rows an_l_rows cd_l_rows ct_l_rows), sl_l_rows⟩) (C_l_rows : PySem.W.codeIn K cd_l_rows "_law_rows" = true) (K_l_rows : PySem.W.keepIn K (.ref a_l_rows) = true)
    {a_l_bad : Addr} {od_l_bad an_l_bad : Option Addr} {sl_l_bad : Array (Option Value)} {oc_l_bad kV_l_bad dc_l_bad pm_l_bad cd_l_bad ct_l_bad : Value}
    (A_l_bad : PySem.W.nsIn K mainGlobals "_law_bad" = some (some (.ref a_l_bad))) (L_l_bad : K.lookup a_l_bad = some ⟨oc_l_bad, od_l_bad, .func (PySem.W.fnOf "_law_bad" "_law_bad" (defArgs s_l_bad) (defBody s_l_bad) (defScope s_l_bad) .none kV_l_bad dc_l_bad pm_l_bad an_l_bad cd_l_bad ct_l_bad), sl_l_bad⟩) (C_l_bad : PySem.W.codeIn K cd_l_bad "_law_bad" = true) (K_l_bad : PySem.W.keepIn K (.ref a_l_bad) = true)
    {a_l_ask : Addr} {od_l_ask an_l_ask : Option Addr} {sl_l_ask : Array (Option Value)} {oc_l_ask kV_l_ask dc_l_ask pm_l_ask cd_l_ask ct_l_ask : Value}
    (A_l_ask : PySem.W.nsIn K mainGlobals "_law_ask" = some (some (.ref a_l_ask))) (L_l_ask : K.lookup a_l_ask = some ⟨oc_l_ask, od_l_ask, .func (PySem.W.fnOf "_law_ask" "_law_ask" (defArgs s_l_ask) (defBody s_l_ask) (defScope s_l_ask) .none kV_l_ask dc_l_ask pm_l_ask an_l_ask cd_l_ask ct_l_ask), sl_l_ask⟩) (C_l_ask : PySem.W.codeIn K cd_l_ask "_law_ask" = true) (K_l_ask : PySem.W.keepIn K (.ref a_l_ask) = true)
    {a_l_sum : Addr} {od_l_sum an_l_sum : Option Addr} {sl_l_sum : Array (Option Value)} {oc_l_sum kV_l_sum dc_l_sum pm_l_sum cd_l_sum ct_l_sum : Value}
    (A_l_sum : PySem.W.nsIn K mainGlobals "_law_sum" = some (some (.ref a_l_sum))) (L_l_sum : K.lookup a_l_sum = some ⟨oc_l_sum, od_l_sum, .func (PySem.W.fnOf "_law_sum" "_law_sum" (defArgs s_l_sum) (defBody s_l_sum) (defScope s_l_sum) .none kV_l_sum dc_l_sum pm_l_sum an_l_sum cd_l_sum ct_l_sum), sl_l_sum⟩) (C_l_sum : PySem.W.codeIn K cd_l_sum "_law_sum" = true) (K_l_sum : PySem.W.keepIn K (.ref a_l_sum) = true)
    {a_l_end : Addr} {od_l_end an_l_end : Option Addr} {sl_l_end : Array (Option Value)} {oc_l_end kV_l_end dc_l_end pm_l_end cd_l_end ct_l_end : Value}
    (A_l_end : PySem.W.nsIn K mainGlobals "_law_end" = some (some (.ref a_l_end))) (L_l_end : K.lookup a_l_end = some ⟨oc_l_end, od_l_end, .func (PySem.W.fnOf "_law_end" "_law_end" (defArgs s_l_end) (defBody s_l_end) (defScope s_l_end) .none kV_l_end dc_l_end pm_l_end an_l_end cd_l_end ct_l_end), sl_l_end⟩) (C_l_end : PySem.W.codeIn K cd_l_end "_law_end" = true) (K_l_end : PySem.W.keepIn K (.ref a_l_end) = true)
    {a_l_folded : Addr} {od_l_folded an_l_folded : Option Addr} {sl_l_folded : Array (Option Value)} {oc_l_folded kV_l_folded dc_l_folded pm_l_folded cd_l_folded ct_l_folded : Value}
    (A_l_folded : PySem.W.nsIn K mainGlobals "_law_folded" = some (some (.ref a_l_folded))) (L_l_folded : K.lookup a_l_folded = some ⟨oc_l_folded, od_l_folded, .func (PySem.W.fnOf "_law_folded" "_law_folded" (defArgs s_l_folded) (defBody s_l_folded) (defScope s_l_folded) .none kV_l_folded dc_l_folded pm_l_folded an_l_folded cd_l_folded ct_l_folded), sl_l_folded⟩) (C_l_folded : PySem.W.codeIn K cd_l_folded "_law_folded" = true) (K_l_folded : PySem.W.keepIn K (.ref a_l_folded) = true)
    {a_l_ordered : Addr} {od_l_ordered an_l_ordered : Option Addr} {sl_l_ordered : Array (Option Value)} {oc_l_ordered kV_l_ordered dc_l_ordered pm_l_ordered cd_l_ordered ct_l_ordered : Value}
    (A_l_ordered : PySem.W.nsIn K mainGlobals "_law_ordered" = some (some (.ref a_l_ordered))) (L_l_ordered : K.lookup a_l_ordered = some ⟨oc_l_ordered, od_l_ordered, .func (PySem.W.fnOf "_law_ordered" "_law_ordered" (defArgs s_l_ordered) (defBody s_l_ordered) (defScope s_l_ordered) .none kV_l_ordered dc_l_ordered pm_l_ordered an_l_ordered cd_l_ordered ct_l_ordered), sl_l_ordered⟩) (C_l_ordered : PySem.W.codeIn K cd_l_ordered "_law_ordered" = true) (K_l_ordered : PySem.W.keepIn K (.ref a_l_ordered) = true)
    {a_l_refused : Addr} {od_l_refused an_l_refused : Option Addr} {sl_l_refused : Array (Option Value)} {oc_l_refused kV_l_refused dc_l_refused pm_l_refused cd_l_refused ct_l_refused : Value}
    (A_l_refused : PySem.W.nsIn K mainGlobals "_law_refused" = some (some (.ref a_l_refused))) (L_l_refused : K.lookup a_l_refused = some ⟨oc_l_refused, od_l_refused, .func (PySem.W.fnOf "_law_refused" "_law_refused" (defArgs s_l_refused) (defBody s_l_refused) (defScope s_l_refused) .none kV_l_refused dc_l_refused pm_l_refused an_l_refused cd_l_refused ct_l_refused), sl_l_refused⟩) (C_l_refused : PySem.W.codeIn K cd_l_refused "_law_refused" = true) (K_l_refused : PySem.W.keepIn K (.ref a_l_refused) = true)
    {a_law : Addr} {od_law an_law : Option Addr} {sl_law : Array (Option Value)} {oc_law kV_law dc_law pm_law cd_law ct_law : Value}
    (A_law : PySem.W.nsIn K mainGlobals "law" = some (some (.ref a_law))) (L_law : K.lookup a_law = some ⟨oc_law, od_law, .func (PySem.W.fnOf "law" "law" (defArgs s_law) (defBody s_law) (defScope s_law) .none kV_law dc_law pm_law an_law cd_law ct_law), sl_law⟩) (C_law : PySem.W.codeIn K cd_law "law" = true) (K_law : PySem.W.keepIn K (.ref a_law) = true) :
    ∃ fd : FuncData, (∀ (s : Shared) (v : Value), BindsTo s fd ⟨[v], []⟩ [("_law_script", v)]) ∧ ∀ base : Heap, K.In base → base.Ns mainGlobals mg → FnOk P w K mg base (L2N.CX P w) 7 fa fd ["_law_script"] (spLaw K) := by
  have e := hfa.symm.trans (PySem.W.mg_of X G A_law)
  cases e
  have oex : OexC K C := ⟨⟨nm, q, N, bs, bm, sn, sub, ab, col, dd, m0, m1, m2, m3, m5, xL, xM⟩, sa, eC, tC, kC⟩
  have FI := fun_mk (st := sIni) l1 c1 k1
  have bI := FI.binds (ps := ["self", "word", "at"]) fun _ _ _ _ _ _ us hl => match us, hl with | [_, _, _], _ => rfl
  have T : Tx K mg C fI _ :=
    { oex := oex, hi := a1, ti := t1, ini := fun P w base => f_ini oex nw na FI, bi := bI, m_C := PySem.W.mg_of X G aC, exm := exm_of eC iC tC sC, xf := ⟨ga, gg, eC, hC⟩, no_word := nw, no_at := na, m_gcd := PySem.W.mg_of X G aG, b_abs := PySem.W.mg_none_of X G z_abs, b_all := PySem.W.mg_none_of X G z_all, b_bool := PySem.W.mg_none_of X G z_bool, b_int := PySem.W.mg_none_of X G z_int, b_isinstance := PySem.W.mg_none_of X G z_isinstance, b_len := PySem.W.mg_none_of X G z_len, b_list := PySem.W.mg_none_of X G z_list, b_range := PySem.W.mg_none_of X G z_range, b_str := PySem.W.mg_none_of X G z_str, b_tuple := PySem.W.mg_none_of X G z_tuple, b_zip := PySem.W.mg_none_of X G z_zip }
  have F_need := fun_mk (st := s_need) L_need C_need K_need
  have b_need := F_need.binds (ps := ["holds", "word"]) fun _ _ _ _ _ _ us hl => match us, hl with | [_, _], _ => rfl
  have F_is_integer := fun_mk (st := s_is_integer) L_is_integer C_is_integer K_is_integer
  have b_is_integer := F_is_integer.binds (ps := ["thing"]) fun _ _ _ _ _ _ us hl => match us, hl with | [_], _ => rfl
  have F_is_quotient := fun_mk (st := s_is_quotient) L_is_quotient C_is_quotient K_is_quotient
  have b_is_quotient := F_is_quotient.binds (ps := ["thing"]) fun _ _ _ _ _ _ us hl => match us, hl with | [_], _ => rfl
  have F_is_row := fun_mk (st := s_is_row) L_is_row C_is_row K_is_row
  have b_is_row := F_is_row.binds (ps := ["thing"]) fun _ _ _ _ _ _ us hl => match us, hl with | [_], _ => rfl
  have F_reduced := fun_mk (st := s_reduced) L_reduced C_reduced K_reduced
  have b_reduced := F_reduced.binds (ps := ["top", "bottom"]) fun _ _ _ _ _ _ us hl => match us, hl with | [_, _], _ => rfl
  have F_sum_of_two := fun_mk (st := s_sum_of_two) L_sum_of_two C_sum_of_two K_sum_of_two
  have b_sum_of_two := F_sum_of_two.binds (ps := ["one", "other"]) fun _ _ _ _ _ _ us hl => match us, hl with | [_, _], _ => rfl
  have F_product_of_two := fun_mk (st := s_product_of_two) L_product_of_two C_product_of_two K_product_of_two
  have b_product_of_two := F_product_of_two.binds (ps := ["one", "other"]) fun _ _ _ _ _ _ us hl => match us, hl with | [_, _], _ => rfl
  have F_lies_below := fun_mk (st := s_lies_below) L_lies_below C_lies_below K_lies_below
  have b_lies_below := F_lies_below.binds (ps := ["one", "other"]) fun _ _ _ _ _ _ us hl => match us, hl with | [_, _], _ => rfl
  have F_need_two := fun_mk (st := s_need_two) L_need_two C_need_two K_need_two
  have b_need_two := F_need_two.binds (ps := ["one", "other"]) fun _ _ _ _ _ _ us hl => match us, hl with | [_, _], _ => rfl
  have F_plus := fun_mk (st := s_plus) L_plus C_plus K_plus
  have b_plus := F_plus.binds (ps := ["one", "other"]) fun _ _ _ _ _ _ us hl => match us, hl with | [_, _], _ => rfl
  have F_times := fun_mk (st := s_times) L_times C_times K_times
  have b_times := F_times.binds (ps := ["one", "other"]) fun _ _ _ _ _ _ us hl => match us, hl with | [_, _], _ => rfl
  have F_is_less := fun_mk (st := s_is_less) L_is_less C_is_less K_is_less
  have b_is_less := F_is_less.binds (ps := ["one", "other"]) fun _ _ _ _ _ _ us hl => match us, hl with | [_, _], _ => rfl
  have F_sum_of_row := fun_mk (st := s_sum_of_row) L_sum_of_row C_sum_of_row K_sum_of_row
  have b_sum_of_row := F_sum_of_row.binds (ps := ["row"]) fun _ _ _ _ _ _ us hl => match us, hl with | [_], _ => rfl
  have F_total := fun_mk (st := s_total) L_total C_total K_total
  have b_total := F_total.binds (ps := ["row"]) fun _ _ _ _ _ _ us hl => match us, hl with | [_], _ => rfl
  have F_weighed := fun_mk (st := s_weighed) L_weighed C_weighed K_weighed
  have b_weighed := F_weighed.binds (ps := ["row", "others"]) fun _ _ _ _ _ _ us hl => match us, hl with | [_, _], _ => rfl
  have F_least_of := fun_mk (st := s_least_of) L_least_of C_least_of K_least_of
  have b_least_of := F_least_of.binds (ps := ["row"]) fun _ _ _ _ _ _ us hl => match us, hl with | [_], _ => rfl
  have F_greatest_of := fun_mk (st := s_greatest_of) L_greatest_of C_greatest_of K_greatest_of
  have b_greatest_of := F_greatest_of.binds (ps := ["row"]) fun _ _ _ _ _ _ us hl => match us, hl with | [_], _ => rfl
  have F_l_mixed := fun_mk (st := s_l_mixed) L_l_mixed C_l_mixed K_l_mixed
  have b_l_mixed := F_l_mixed.binds (ps := ["_law_cell", "_law_tick"]) fun _ _ _ _ _ _ us hl => match us, hl with | [_, _], _ => rfl
  have F_l_pool := fun_mk (st := s_l_pool) L_l_pool C_l_pool K_l_pool
  have b_l_pool := F_l_pool.binds (ps := ["_law_script"]) fun _ _ _ _ _ _ us hl => match us, hl with | [_], _ => rfl
  have F_l_take := fun_mk (st := s_l_take) L_l_take C_l_take K_l_take
  have b_l_take := F_l_take.binds (ps := ["_law_pool_here", "_law_size"]) fun _ _ _ _ _ _ us hl => match us, hl with | [_, _], _ => rfl
  have F_l_whole := fun_mk (st := s_l_whole) L_l_whole C_l_whole K_l_whole
  have b_l_whole := F_l_whole.binds (ps := ["_law_value"]) fun _ _ _ _ _ _ us hl => match us, hl with | [_], _ => rfl
  have F_l_common := fun_mk (st := s_l_common) L_l_common C_l_common K_l_common
  have b_l_common := F_l_common.binds (ps := ["_law_high", "_law_low_here"]) fun _ _ _ _ _ _ us hl => match us, hl with | [_, _], _ => rfl
  have F_l_low := fun_mk (st := s_l_low) L_l_low C_l_low K_l_low
  have b_l_low := F_l_low.binds (ps := ["_law_top", "_law_bottom"]) fun _ _ _ _ _ _ us hl => match us, hl with | [_, _], _ => rfl
  have F_l_quotient := fun_mk (st := s_l_quotient) L_l_quotient C_l_quotient K_l_quotient
  have b_l_quotient := F_l_quotient.binds (ps := ["_law_value"]) fun _ _ _ _ _ _ us hl => match us, hl with | [_], _ => rfl
  have F_l_stands := fun_mk (st := s_l_stands) L_l_stands C_l_stands K_l_stands
  have b_l_stands := F_l_stands.binds (ps := ["_law_told", "_law_top", "_law_bottom"]) fun _ _ _ _ _ _ us hl => match us, hl with | [_, _, _], _ => rfl
  have F_l_draw := fun_mk (st := s_l_draw) L_l_draw C_l_draw K_l_draw
  have b_l_draw := F_l_draw.binds (ps := ["_law_pool_here", "_law_style"]) fun _ _ _ _ _ _ us hl => match us, hl with | [_, _], _ => rfl
  have F_l_rows := fun_mk (st := s_l_rows) L_l_rows C_l_rows K_l_rows
  have b_l_rows := F_l_rows.binds (ps := ["_law_pool_here"]) fun _ _ _ _ _ _ us hl => match us, hl with | [_], _ => rfl
  have F_l_bad := fun_mk (st := s_l_bad) L_l_bad C_l_bad K_l_bad
  have b_l_bad := F_l_bad.binds (ps := ["_law_pool_here"]) fun _ _ _ _ _ _ us hl => match us, hl with | [_], _ => rfl
  have F_l_ask := fun_mk (st := s_l_ask) L_l_ask C_l_ask K_l_ask
  have b_l_ask := F_l_ask.binds (ps := ["_law_deed", "_law_left", "_law_right", "_law_named"]) fun _ _ _ _ _ _ us hl => match us, hl with | [_, _, _, _], _ => rfl
  have F_l_sum := fun_mk (st := s_l_sum) L_l_sum C_l_sum K_l_sum
  have b_l_sum := F_l_sum.binds (ps := ["_law_left", "_law_right", "_law_told"]) fun _ _ _ _ _ _ us hl => match us, hl with | [_, _, _], _ => rfl
  have F_l_end := fun_mk (st := s_l_end) L_l_end C_l_end K_l_end
  have b_l_end := F_l_end.binds (ps := ["_law_row_held", "_law_told", "_law_sign"]) fun _ _ _ _ _ _ us hl => match us, hl with | [_, _, _], _ => rfl
  have F_l_folded := fun_mk (st := s_l_folded) L_l_folded C_l_folded K_l_folded
  have b_l_folded := F_l_folded.binds (ps := ["_law_left", "_law_right", "_law_due_total", "_law_due_weighed"]) fun _ _ _ _ _ _ us hl => match us, hl with | [_, _, _, _], _ => rfl
  have F_l_ordered := fun_mk (st := s_l_ordered) L_l_ordered C_l_ordered K_l_ordered
  have b_l_ordered := F_l_ordered.binds (ps := ["_law_row_held", "_law_pool_here"]) fun _ _ _ _ _ _ us hl => match us, hl with | [_, _], _ => rfl
  have F_l_refused := fun_mk (st := s_l_refused) L_l_refused C_l_refused K_l_refused
  have b_l_refused := F_l_refused.binds (ps := ["_law_pool_here", "_law_left", "_law_right", "_law_named"]) fun _ _ _ _ _ _ us hl => match us, hl with | [_, _, _, _], _ => rfl
  have F_law := fun_mk (st := s_law) L_law C_law K_law
  have b_law := F_law.binds (ps := ["_law_script"]) fun _ _ _ _ _ _ us hl => match us, hl with | [_], _ => rfl
  refine ⟨PySem.W.fnOf "law" "law" (defArgs s_law) (defBody s_law) (defScope s_law) .none kV_law dc_law pm_law an_law cd_law ct_law, fun s v => .of_eq rfl, fun base _ _ => ?_⟩
  have k_need : Cl P w K mg base 3 "need" s_need ["holds", "word"] 2 (c_need C) a_need _ := ⟨fn_ok F_need sc_need rfl (d_need T  ) r_need, PySem.W.mg_of X G A_need, K_need, b_need, F_need⟩
  have k_is_integer : Cl P w K mg base 1 "is_integer" s_is_integer ["thing"] 1 c_is_integer a_is_integer _ := ⟨fn_ok F_is_integer sc_is_integer rfl (d_is_integer T  ) r_is_integer, PySem.W.mg_of X G A_is_integer, K_is_integer, b_is_integer, F_is_integer⟩
  have k_is_quotient : Cl P w K mg base 2 "is_quotient" s_is_quotient ["thing"] 1 c_is_quotient a_is_quotient _ := ⟨fn_ok F_is_quotient sc_is_quotient rfl (d_is_quotient T (H_is_integer := k_is_integer) ) r_is_quotient, PySem.W.mg_of X G A_is_quotient, K_is_quotient, b_is_quotient, F_is_quotient⟩
  have k_is_row : Cl P w K mg base 3 "is_row" s_is_row ["thing"] 1 c_is_row a_is_row _ := ⟨fn_ok F_is_row sc_is_row rfl (d_is_row T (H_is_quotient := k_is_quotient) ) r_is_row, PySem.W.mg_of X G A_is_row, K_is_row, b_is_row, F_is_row⟩
  have k_reduced : Cl P w K mg base 1 "reduced" s_reduced ["top", "bottom"] 2 c_reduced a_reduced _ := ⟨fn_ok F_reduced sc_reduced rfl (d_reduced T  ) r_reduced, PySem.W.mg_of X G A_reduced, K_reduced, b_reduced, F_reduced⟩
  have k_sum_of_two : Cl P w K mg base 2 "sum_of_two" s_sum_of_two ["one", "other"] 2 c_sum_of_two a_sum_of_two _ := ⟨fn_ok F_sum_of_two sc_sum_of_two rfl (d_sum_of_two T (H_reduced := k_reduced) ) r_sum_of_two, PySem.W.mg_of X G A_sum_of_two, K_sum_of_two, b_sum_of_two, F_sum_of_two⟩
  have k_product_of_two : Cl P w K mg base 2 "product_of_two" s_product_of_two ["one", "other"] 2 c_product_of_two a_product_of_two _ := ⟨fn_ok F_product_of_two sc_product_of_two rfl (d_product_of_two T (H_reduced := k_reduced) ) r_product_of_two, PySem.W.mg_of X G A_product_of_two, K_product_of_two, b_product_of_two, F_product_of_two⟩
  have k_lies_below : Cl P w K mg base 1 "lies_below" s_lies_below ["one", "other"] 2 c_lies_below a_lies_below _ := ⟨fn_ok F_lies_below sc_lies_below rfl (d_lies_below T  ) r_lies_below, PySem.W.mg_of X G A_lies_below, K_lies_below, b_lies_below, F_lies_below⟩
  have k_need_two : Cl P w K mg base 4 "need_two" s_need_two ["one", "other"] 2 (c_need_two C) a_need_two _ := ⟨fn_ok F_need_two sc_need_two rfl (d_need_two T (H_need := k_need) (H_is_quotient := k_is_quotient) ) r_need_two, PySem.W.mg_of X G A_need_two, K_need_two, b_need_two, F_need_two⟩
  have k_plus : Cl P w K mg base 5 "plus" s_plus ["one", "other"] 2 (c_plus C) a_plus _ := ⟨fn_ok F_plus sc_plus rfl (d_plus T (H_need_two := k_need_two) (H_sum_of_two := k_sum_of_two) ) r_plus, PySem.W.mg_of X G A_plus, K_plus, b_plus, F_plus⟩
  have k_times : Cl P w K mg base 5 "times" s_times ["one", "other"] 2 (c_times C) a_times _ := ⟨fn_ok F_times sc_times rfl (d_times T (H_need_two := k_need_two) (H_product_of_two := k_product_of_two) ) r_times, PySem.W.mg_of X G A_times, K_times, b_times, F_times⟩
  have k_is_less : Cl P w K mg base 5 "is_less" s_is_less ["one", "other"] 2 (c_is_less C) a_is_less _ := ⟨fn_ok F_is_less sc_is_less rfl (d_is_less T (H_need_two := k_need_two) (H_lies_below := k_lies_below) ) r_is_less, PySem.W.mg_of X G A_is_less, K_is_less, b_is_less, F_is_less⟩
  have k_sum_of_row : Cl P w K mg base 3 "sum_of_row" s_sum_of_row ["row"] 1 c_sum_of_row a_sum_of_row _ := ⟨fn_ok F_sum_of_row sc_sum_of_row rfl (d_sum_of_row T (H_sum_of_two := k_sum_of_two) ) r_sum_of_row, PySem.W.mg_of X G A_sum_of_row, K_sum_of_row, b_sum_of_row, F_sum_of_row⟩
  have k_total : Cl P w K mg base 4 "total" s_total ["row"] 1 (c_total C) a_total _ := ⟨fn_ok F_total sc_total rfl (d_total T (H_need := k_need) (H_sum_of_row := k_sum_of_row) (H_is_row := k_is_row) ) r_total, PySem.W.mg_of X G A_total, K_total, b_total, F_total⟩
  have k_weighed : Cl P w K mg base 4 "weighed" s_weighed ["row", "others"] 2 (c_weighed C) a_weighed _ := ⟨fn_ok F_weighed sc_weighed rfl (d_weighed T (H_need := k_need) (H_sum_of_row := k_sum_of_row) (H_is_row := k_is_row) (H_product_of_two := k_product_of_two) ) r_weighed, PySem.W.mg_of X G A_weighed, K_weighed, b_weighed, F_weighed⟩
  have k_least_of : Cl P w K mg base 4 "least_of" s_least_of ["row"] 1 (c_least_of C) a_least_of _ := ⟨fn_ok F_least_of sc_least_of rfl (d_least_of T (H_need := k_need) (H_lies_below := k_lies_below) (H_is_row := k_is_row) ) r_least_of, PySem.W.mg_of X G A_least_of, K_least_of, b_least_of, F_least_of⟩
  have k_greatest_of : Cl P w K mg base 4 "greatest_of" s_greatest_of ["row"] 1 (c_greatest_of C) a_greatest_of _ := ⟨fn_ok F_greatest_of sc_greatest_of rfl (d_greatest_of T (H_need := k_need) (H_lies_below := k_lies_below) (H_is_row := k_is_row) ) r_greatest_of, PySem.W.mg_of X G A_greatest_of, K_greatest_of, b_greatest_of, F_greatest_of⟩
  have k_l_mixed : Cl P w K mg base 1 "_law_mixed" s_l_mixed ["_law_cell", "_law_tick"] 2 c_l_mixed a_l_mixed _ := ⟨fn_ok F_l_mixed sc_l_mixed rfl (d_l_mixed T  ) r_l_mixed, PySem.W.mg_of X G A_l_mixed, K_l_mixed, b_l_mixed, F_l_mixed⟩
  have k_l_take : Cl P w K mg base 2 "_law_take" s_l_take ["_law_pool_here", "_law_size"] 2 c_l_take a_l_take _ := ⟨f_l_take T F_l_take k_l_mixed, PySem.W.mg_of X G A_l_take, K_l_take, b_l_take, F_l_take⟩
  have k_l_whole : Cl P w K mg base 1 "_law_whole" s_l_whole ["_law_value"] 1 c_l_whole a_l_whole _ := ⟨fn_ok F_l_whole sc_l_whole rfl (d_l_whole T  ) r_l_whole, PySem.W.mg_of X G A_l_whole, K_l_whole, b_l_whole, F_l_whole⟩
  have kh_l_whole : L2H.FnH P w K mg base (L2N.CX P w) 1 a_l_whole _ ["_law_value"] (spC K 1 c_l_whole) := fn_okH F_l_whole sc_l_whole rfl (hd_l_whole T) r_l_whole
  have k_l_common : Cl P w K mg base 1 "_law_common" s_l_common ["_law_high", "_law_low_here"] 2 c_l_common a_l_common _ := ⟨fn_ok F_l_common sc_l_common rfl (d_l_common T  ) r_l_common, PySem.W.mg_of X G A_l_common, K_l_common, b_l_common, F_l_common⟩
  have k_l_low : Cl P w K mg base 2 "_law_low" s_l_low ["_law_top", "_law_bottom"] 2 c_l_low a_l_low _ := ⟨fn_ok F_l_low sc_l_low rfl (d_l_low T (H_l_common := k_l_common) ) r_l_low, PySem.W.mg_of X G A_l_low, K_l_low, b_l_low, F_l_low⟩
  have k_l_quotient : Cl P w K mg base 2 "_law_quotient" s_l_quotient ["_law_value"] 1 c_l_quotient a_l_quotient _ := ⟨fn_ok F_l_quotient sc_l_quotient rfl (d_l_quotient T (H_l_common := k_l_common) (H_l_whole := k_l_whole) ) r_l_quotient, PySem.W.mg_of X G A_l_quotient, K_l_quotient, b_l_quotient, F_l_quotient⟩
  have k_l_stands : Cl P w K mg base 3 "_law_stands" s_l_stands ["_law_told", "_law_top", "_law_bottom"] 3 c_l_stands a_l_stands _ := ⟨fn_ok F_l_stands sc_l_stands rfl (d_l_stands T (H_l_quotient := k_l_quotient) ) r_l_stands, PySem.W.mg_of X G A_l_stands, K_l_stands, b_l_stands, F_l_stands⟩
  have k_l_draw : Cl P w K mg base 3 "_law_draw" s_l_draw ["_law_pool_here", "_law_style"] 2 c_l_draw a_l_draw _ := ⟨fn_ok F_l_draw sc_l_draw rfl (d_l_draw T (H_l_low := k_l_low) (H_l_take := k_l_take) ) r_l_draw, PySem.W.mg_of X G A_l_draw, K_l_draw, b_l_draw, F_l_draw⟩
  have k_l_rows : Cl P w K mg base 4 "_law_rows" s_l_rows ["_law_pool_here"] 1 c_l_rows a_l_rows _ := ⟨fn_ok F_l_rows sc_l_rows rfl (d_l_rows T (H_l_take := k_l_take) (H_l_draw := k_l_draw) ) r_l_rows, PySem.W.mg_of X G A_l_rows, K_l_rows, b_l_rows, F_l_rows⟩
  have k_l_bad : Cl P w K mg base 3 "_law_bad" s_l_bad ["_law_pool_here"] 1 c_l_bad a_l_bad _ := ⟨fn_ok F_l_bad sc_l_bad rfl (d_l_bad T (H_l_take := k_l_take) ) r_l_bad, PySem.W.mg_of X G A_l_bad, K_l_bad, b_l_bad, F_l_bad⟩
  have k_l_ask : Cl P w K mg base 5 "_law_ask" s_l_ask ["_law_deed", "_law_left", "_law_right", "_law_named"] 4 (c_l_ask C) a_l_ask _ := ⟨fn_ok F_l_ask sc_l_ask rfl (d_l_ask T (H_greatest_of := k_greatest_of) (H_total := k_total) (H_weighed := k_weighed) (H_least_of := k_least_of) (H_l_whole := k_l_whole) (HH_l_whole := kh_l_whole)) (r_l_ask C), PySem.W.mg_of X G A_l_ask, K_l_ask, b_l_ask, F_l_ask⟩
  have k_l_sum : Cl P w K mg base 4 "_law_sum" s_l_sum ["_law_left", "_law_right", "_law_told"] 3 c_l_sum a_l_sum _ := ⟨fn_ok F_l_sum sc_l_sum rfl (d_l_sum T (H_l_stands := k_l_stands) ) r_l_sum, PySem.W.mg_of X G A_l_sum, K_l_sum, b_l_sum, F_l_sum⟩
  have k_l_end : Cl P w K mg base 3 "_law_end" s_l_end ["_law_row_held", "_law_told", "_law_sign"] 3 c_l_end a_l_end _ := ⟨fn_ok F_l_end sc_l_end rfl (d_l_end T (H_l_quotient := k_l_quotient) ) r_l_end, PySem.W.mg_of X G A_l_end, K_l_end, b_l_end, F_l_end⟩
  have k_l_folded : Cl P w K mg base 6 "_law_folded" s_l_folded ["_law_left", "_law_right", "_law_due_total", "_law_due_weighed"] 4 (c_l_folded C) a_l_folded _ := ⟨fn_ok F_l_folded sc_l_folded rfl (d_l_folded T (H_plus := k_plus) (H_times := k_times) ) (r_l_folded C), PySem.W.mg_of X G A_l_folded, K_l_folded, b_l_folded, F_l_folded⟩
  have k_l_ordered : Cl P w K mg base 6 "_law_ordered" s_l_ordered ["_law_row_held", "_law_pool_here"] 2 (c_l_ordered C) a_l_ordered _ := ⟨fn_ok F_l_ordered sc_l_ordered rfl (d_l_ordered T (H_l_take := k_l_take) (H_is_less := k_is_less) ) (r_l_ordered C), PySem.W.mg_of X G A_l_ordered, K_l_ordered, b_l_ordered, F_l_ordered⟩
  have k_l_refused : Cl P w K mg base 6 "_law_refused" s_l_refused ["_law_pool_here", "_law_left", "_law_right", "_law_named"] 4 (c_l_refused C) a_l_refused _ := ⟨fn_ok F_l_refused sc_l_refused rfl (d_l_refused T (H_l_bad := k_l_bad) (H_l_take := k_l_take) (H_l_ask := k_l_ask) ) (r_l_refused C), PySem.W.mg_of X G A_l_refused, K_l_refused, b_l_refused, F_l_refused⟩
  exact f_law F_law (f_l_pool T F_l_pool) (PySem.W.mg_of X G A_l_pool) K_l_pool b_l_pool (d_law T (H_l_rows := k_l_rows) (H_l_ask := k_l_ask) (H_l_take := k_l_take) (H_l_sum := k_l_sum) (H_l_refused := k_l_refused) (H_l_end := k_l_end) (H_l_ordered := k_l_ordered) (H_l_folded := k_l_folded))
theorem walk {l : PySem.W.OpenLaw} {q : Program} {loose : List Str} {XP : (Str → Option Value) → Heap → Prop} {YP : World → Heap → Prop} {d : DefRec} {K : Params → PySem.W.Frag} (hn : l.most = some 63) (hdf : d.params.defaults = [])
    (hY : ∀ (w : World) (h : Heap), YP w h → (K w.params).In h)
    (F : ∀ (w : World) (mg : Str → Option Value) (fa : Addr) (h : Heap), (K w.params).In h → h.Ns mainGlobals mg → mg d.name = some (.ref fa) →
      ∃ fd : FuncData, (∀ (s : Shared) (u : Value), BindsTo s fd ⟨[u], []⟩ [("_law_script", u)]) ∧ ∀ base : Heap, (K w.params).In base → base.Ns mainGlobals mg → FnOk l.prog w (K w.params) mg base (L2N.CX l.prog w) 7 fa fd ["_law_script"] (spLaw (K w.params))) :
    PySem.W.WalkO q loose XP YP l.row.toRowW d [] (fun f vs => PySem.call f vs) :=
  L2.walk_of (n := 63) (k := 7) (x := "_law_script") (CX := fun w => L2N.CX l.prog w) (sp := fun w => spLaw (K w.params)) hn (by decide) hdf ⟨rfl, by decide, by decide⟩ hY F (fun _ _ a ns hl _ hS => ⟨a, ns, rfl, hS, fun _ => rfl⟩) fun _ _ _ _ _ h => (by obtain ⟨_, _, _, _, _, _, _, _, _, _, _, _, z⟩ := h; exact z)
end K01
-- K01y
set_option Elab.async false
set_option linter.all false
open PySem PySem.W PyProof.Rows in
set_option maxRecDepth 100000 in
set_option maxHeartbeats 0 in
theorem PySem.Challenge.cw_hungwall_k01_whole_sums_and_orders_holds : PySem.Challenge.rw_hungwall_k01_whole_sums_and_orders.Holds := by
  w_on; o_law; k_head; (case hw => w_witness2)
  k_fill
  refine K01.walk (l := PySem.Challenge.rw_hungwall_k01_whole_sums_and_orders) rfl rfl (fun w h Y => PySem.W.kIn_of Y) ?F
  case F =>
    intro w mg fa h KX G hmg
    refine' K01.all_mk KX G hmg ?aC ?xL ?xM ?sa ?ga ?gg ?nw ?na ?a1 ?t1 ?l1 ?c1 ?k1 ?kC ?eC ?tC ?hC ?iC ?sC ?aG ?z_abs ?z_all ?z_bool ?z_int ?z_isinstance ?z_len ?z_list ?z_range ?z_str ?z_tuple ?z_zip ?A_need ?L_need ?C_need ?K_need ?A_is_integer ?L_is_integer ?C_is_integer ?K_is_integer ?A_is_quotient ?L_is_quotient ?C_is_quotient ?K_is_quotient ?A_is_row ?L_is_row ?C_is_row ?K_is_row ?A_reduced ?L_reduced ?C_reduced ?K_reduced ?A_sum_of_two ?L_sum_of_two ?C_sum_of_two ?K_sum_of_two ?A_product_of_two ?L_product_of_two ?C_product_of_two ?K_product_of_two ?A_lies_below ?L_lies_below ?C_lies_below ?K_lies_below ?A_need_two ?L_need_two ?C_need_two ?K_need_two ?A_plus ?L_plus ?C_plus ?K_plus ?A_times ?L_times ?C_times ?K_times ?A_is_less ?L_is_less ?C_is_less ?K_is_less ?A_sum_of_row ?L_sum_of_row ?C_sum_of_row ?K_sum_of_row ?A_total ?L_total ?C_total ?K_total ?A_weighed ?L_weighed ?C_weighed ?K_weighed ?A_least_of ?L_least_of ?C_least_of ?K_least_of ?A_greatest_of ?L_greatest_of ?C_greatest_of ?K_greatest_of ?A_l_mixed ?L_l_mixed ?C_l_mixed ?K_l_mixed ?A_l_pool ?L_l_pool ?C_l_pool ?K_l_pool ?A_l_take ?L_l_take ?C_l_take ?K_l_take ?A_l_whole ?L_l_whole ?C_l_whole ?K_l_whole ?A_l_common ?L_l_common ?C_l_common ?K_l_common ?A_l_low ?L_l_low ?C_l_low ?K_l_low ?A_l_quotient ?L_l_quotient ?C_l_quotient ?K_l_quotient ?A_l_stands ?L_l_stands ?C_l_stands ?K_l_stands ?A_l_draw ?L_l_draw ?C_l_draw ?K_l_draw ?A_l_rows ?L_l_rows ?C_l_rows ?K_l_rows ?A_l_bad ?L_l_bad ?C_l_bad ?K_l_bad ?A_l_ask ?L_l_ask ?C_l_ask ?K_l_ask ?A_l_sum ?L_l_sum ?C_l_sum ?K_l_sum ?A_l_end ?L_l_end ?C_l_end ?K_l_end ?A_l_folded ?L_l_folded ?C_l_folded ?K_l_folded ?A_l_ordered ?L_l_ordered ?C_l_ordered ?K_l_ordered ?A_l_refused ?L_l_refused ?C_l_refused ?K_l_refused ?A_law ?L_law ?C_law ?K_law
    (case aC => k_is)
    (case xL => k_is)
    (case xM => decide +kernel)
    (case sa => k_is)
    (case ga => k_is)
    (case gg => k_is)
    (case nw => k_is)
    (case na => k_is)
    (case a1 => k_is)
    (case t1 => k_is)
    (case l1 => k_is)
    (case c1 => k_is)
    (case k1 => k_is)
    (case kC => k_is)
    (case eC => k_is)
    (case tC => k_is)
    (case hC => k_is)
    (case iC => k_is)
    (case sC => first | rfl | k_is)
    (case aG => k_is)
    (case z_abs => k_is)
    (case z_all => k_is)
    (case z_bool => k_is)
    (case z_int => k_is)
    (case z_isinstance => k_is)
    (case z_len => k_is)
    (case z_list => k_is)
    (case z_range => k_is)
    (case z_str => k_is)
    (case z_tuple => k_is)
    (case z_zip => k_is)
    (case A_need => k_is)
    (case L_need => k_is)
    (case C_need => k_is)
    (case K_need => k_is)
    (case A_is_integer => k_is)
    (case L_is_integer => k_is)
    (case C_is_integer => k_is)
    (case K_is_integer => k_is)
    (case A_is_quotient => k_is)
    (case L_is_quotient => k_is)
    (case C_is_quotient => k_is)
    (case K_is_quotient => k_is)
    (case A_is_row => k_is)
    (case L_is_row => k_is)
    (case C_is_row => k_is)
    (case K_is_row => k_is)
    (case A_reduced => k_is)
    (case L_reduced => k_is)
    (case C_reduced => k_is)
    (case K_reduced => k_is)
    (case A_sum_of_two => k_is)
    (case L_sum_of_two => k_is)
    (case C_sum_of_two => k_is)
    (case K_sum_of_two => k_is)
    (case A_product_of_two => k_is)
    (case L_product_of_two => k_is)
    (case C_product_of_two => k_is)
    (case K_product_of_two => k_is)
    (case A_lies_below => k_is)
    (case L_lies_below => k_is)
    (case C_lies_below => k_is)
    (case K_lies_below => k_is)
    (case A_need_two => k_is)
    (case L_need_two => k_is)
    (case C_need_two => k_is)
    (case K_need_two => k_is)
    (case A_plus => k_is)
    (case L_plus => k_is)
    (case C_plus => k_is)
    (case K_plus => k_is)
    (case A_times => k_is)
    (case L_times => k_is)
    (case C_times => k_is)
    (case K_times => k_is)
    (case A_is_less => k_is)
    (case L_is_less => k_is)
    (case C_is_less => k_is)
    (case K_is_less => k_is)
    (case A_sum_of_row => k_is)
    (case L_sum_of_row => k_is)
    (case C_sum_of_row => k_is)
    (case K_sum_of_row => k_is)
    (case A_total => k_is)
    (case L_total => k_is)
    (case C_total => k_is)
    (case K_total => k_is)
    (case A_weighed => k_is)
    (case L_weighed => k_is)
    (case C_weighed => k_is)
    (case K_weighed => k_is)
    (case A_least_of => k_is)
    (case L_least_of => k_is)
    (case C_least_of => k_is)
    (case K_least_of => k_is)
    (case A_greatest_of => k_is)
    (case L_greatest_of => k_is)
    (case C_greatest_of => k_is)
    (case K_greatest_of => k_is)
    (case A_l_mixed => k_is)
    (case L_l_mixed => k_is)
    (case C_l_mixed => k_is)
    (case K_l_mixed => k_is)
    (case A_l_pool => k_is)
    (case L_l_pool => k_is)
    (case C_l_pool => k_is)
    (case K_l_pool => k_is)
    (case A_l_take => k_is)
    (case L_l_take => k_is)
    (case C_l_take => k_is)
    (case K_l_take => k_is)
    (case A_l_whole => k_is)
    (case L_l_whole => k_is)
    (case C_l_whole => k_is)
    (case K_l_whole => k_is)
    (case A_l_common => k_is)
    (case L_l_common => k_is)
    (case C_l_common => k_is)
    (case K_l_common => k_is)
    (case A_l_low => k_is)
    (case L_l_low => k_is)
    (case C_l_low => k_is)
    (case K_l_low => k_is)
    (case A_l_quotient => k_is)
    (case L_l_quotient => k_is)
    (case C_l_quotient => k_is)
    (case K_l_quotient => k_is)
    (case A_l_stands => k_is)
    (case L_l_stands => k_is)
    (case C_l_stands => k_is)
    (case K_l_stands => k_is)
    (case A_l_draw => k_is)
    (case L_l_draw => k_is)
    (case C_l_draw => k_is)
    (case K_l_draw => k_is)
    (case A_l_rows => k_is)
    (case L_l_rows => k_is)
    (case C_l_rows => k_is)
    (case K_l_rows => k_is)
    (case A_l_bad => k_is)
    (case L_l_bad => k_is)
    (case C_l_bad => k_is)
    (case K_l_bad => k_is)
    (case A_l_ask => k_is)
    (case L_l_ask => k_is)
    (case C_l_ask => k_is)
    (case K_l_ask => k_is)
    (case A_l_sum => k_is)
    (case L_l_sum => k_is)
    (case C_l_sum => k_is)
    (case K_l_sum => k_is)
    (case A_l_end => k_is)
    (case L_l_end => k_is)
    (case C_l_end => k_is)
    (case K_l_end => k_is)
    (case A_l_folded => k_is)
    (case L_l_folded => k_is)
    (case C_l_folded => k_is)
    (case K_l_folded => k_is)
    (case A_l_ordered => k_is)
    (case L_l_ordered => k_is)
    (case C_l_ordered => k_is)
    (case K_l_ordered => k_is)
    (case A_l_refused => k_is)
    (case L_l_refused => k_is)
    (case C_l_refused => k_is)
    (case K_l_refused => k_is)
    (case A_law => k_is)
    (case L_law => k_is)
    (case C_law => k_is)
    (case K_law => k_is)
