import PyProof.Rows.All
import Wide.All
import OpenK.AllK
import Wide.FinOn
import HandS.ForMost
import HandS.Wide
import HandS.Gcd
import HandS.Defaults
import HandS.Star
import HandS.RaiseMore
import HandS.TupAny
import HandS.IsInst
import HandS.TupMul
import PyProof.Rows.IntBool
import HandS.Style
import PyProof.ReprBulk
import HandS.Iter
import KE.KStateDown
import HandS.Head0
import HandS.Head1
import HandS.Head2
import HandS.HeadEnd
import HandS.HeadHook1
import HandS.HeadHook2
import HandS.Text
import PyProof.Rows.ReprOcc
import PyProof.Rows.StrCase
import HandS.Zip
import HandS.Dict
import HandS.More
import HandS.NoneIn
import HandS.FStr
import HandS.StrMore
import HandS.RevTup
import HandS.Rev
import HandS.MapObj
import HandS.Deep
import PySem.Challenge.RW_stackorder_k08_whole_fractions
set_option Elab.async false
set_option linter.all false
set_option maxRecDepth 100000
/-! D1: pure data over the hand layer: states of data, what stays, what is read. -/
namespace DL
open L2 PySem PySem.Spec PyProof.Rows

/-! ### parts of heaps -/
abbrev Sub (H H' : Hp) : Prop := ∀ a o, H a = some o → H' a = some o
theorem Sub.rfl {H : Hp} : Sub H H := fun _ _ h => h
theorem Sub.trans {A B C : Hp} (p : Sub A B) (q : Sub B C) : Sub A C := fun a o h => q a o (p a o h)
theorem Sub.up {H : Hp} {p : Addr} {o : HO} (n : H p = none) : Sub H (upd H p o) := by
  intro b u e
  rw [upd_ne (ne_of_none e n)]
  exact e
theorem none_back {A B : Hp} (s : Sub A B) {p : Addr} (n : B p = none) : A p = none := by
  cases e : A p with
  | none => rfl
  | some o => rw [s p o e] at n; cases n
/-! data that stand in the abstract heap: a list is tracked, a tuple is tracked or one of the module's own -/
mutual
inductive Dq (K : PySem.W.Frag) (H : Hp) : V → PyData → Prop
  | non : Dq K H .non .none
  | bl (b : Bool) : Dq K H (.bl b) (.bool b)
  | int (i : Int) : Dq K H (.int i) (.int i)
  | str (x : Str) : Dq K H (.str x) (.str x)
  | lst {a : Addr} {xs : List V} {ds : List PyData} : H a = some (.lst xs) → DqAll K H xs ds → Dq K H (.ref a) (.list ds)
  | tup {a : Addr} {xs : List V} {ds : List PyData} : SqT K H a xs → DqAll K H xs ds → Dq K H (.ref a) (.tuple ds)
inductive DqAll (K : PySem.W.Frag) (H : Hp) : List V → List PyData → Prop
  | nil : DqAll K H [] []
  | cons {v : V} {vs : List V} {d : PyData} {ds : List PyData} : Dq K H v d → DqAll K H vs ds → DqAll K H (v :: vs) (d :: ds)
end
mutual
theorem Dq.dp {K : PySem.W.Frag} {H : Hp} : ∀ (d : PyData) {v : V}, Dq K H v d → Dp K H v d
  | .none, _, h => by cases h; exact .non
  | .bool b, _, h => by cases h; exact .bl b
  | .int i, _, h => by cases h; exact .int i
  | .str x, _, h => by cases h; exact .str x
  | .list ds, _, h => by
    cases h with
    | lst h1 h2 => exact .lst (.of h1) (DqAll.dp ds h2)
  | .tuple ds, _, h => by
    cases h with
    | tup h1 h2 => exact .tup h1 (DqAll.dp ds h2)
  | .dict _, _, h => by cases h
theorem DqAll.dp {K : PySem.W.Frag} {H : Hp} : ∀ (ds : List PyData) {vs : List V}, DqAll K H vs ds → DpAll K H vs ds
  | [], _, h => by cases h; exact .nil
  | d :: ds, _, h => by
    cases h with
    | cons h1 h2 => exact .cons (Dq.dp d h1) (DqAll.dp ds h2)
end
section
variable {K : PySem.W.Frag} {A B : Hp}
theorem rd_up (s : Sub A B) {a : Addr} {u : HO} (h : Rd A a u) : Rd B a u :=
  h.elim (fun h => .inl (s _ _ h)) fun ⟨o, h⟩ => .inr ⟨o, s _ _ h⟩
theorem sqL_up (s : Sub A B) {a : Addr} {xs : List V} (h : SqL K A a xs) : SqL K B a xs :=
  h.elim (fun h => .inl (rd_up s h)) .inr
theorem sqT_up (s : Sub A B) {a : Addr} {xs : List V} (h : SqT K A a xs) : SqT K B a xs :=
  h.elim (fun h => .inl (rd_up s h)) .inr
mutual
theorem dq_up (s : Sub A B) : ∀ (d : PyData) {v : V}, Dq K A v d → Dq K B v d
  | .none, _, h => by cases h; exact .non
  | .bool b, _, h => by cases h; exact .bl b
  | .int i, _, h => by cases h; exact .int i
  | .str x, _, h => by cases h; exact .str x
  | .list ds, _, h => by
    cases h with
    | lst h1 h2 => exact .lst (s _ _ h1) (dqAll_up s ds h2)
  | .tuple ds, _, h => by
    cases h with
    | tup h1 h2 => exact .tup (sqT_up s h1) (dqAll_up s ds h2)
  | .dict _, _, h => by cases h
theorem dqAll_up (s : Sub A B) : ∀ (ds : List PyData) {vs : List V}, DqAll K A vs ds → DqAll K B vs ds
  | [], _, h => by cases h; exact .nil
  | d :: ds, _, h => by
    cases h with
    | cons h1 h2 => exact .cons (dq_up s d h1) (dqAll_up s ds h2)
end
theorem DqAll.len : ∀ {vs : List V} {ds : List PyData}, DqAll K A vs ds → vs.length = ds.length
  | _, _, .nil => _root_.rfl
  | _, _, .cons _ t => congrArg Nat.succ t.len
theorem DqAll.app : ∀ {vs ws : List V} {ds es : List PyData}, DqAll K A vs ds → DqAll K A ws es → DqAll K A (vs ++ ws) (ds ++ es)
  | _, _, _, _, .nil, q => q
  | _, _, _, _, .cons h t, q => .cons h (t.app q)
theorem DqAll.get : ∀ {vs : List V} {ds : List PyData} {i : Nat} {d : PyData}, DqAll K A vs ds → ds[i]? = some d → ∃ v, vs[i]? = some v ∧ Dq K A v d
  | _, _, _, _, .nil, e => by cases e
  | _, _, 0, _, .cons h _, e => by cases e; exact ⟨_, _root_.rfl, h⟩
  | _, _, i + 1, _, .cons _ t, e => t.get (i := i) e
theorem DqAll.getV : ∀ {vs : List V} {ds : List PyData} {i : Nat} {v : V}, DqAll K A vs ds → vs[i]? = some v → ∃ d, ds[i]? = some d ∧ Dq K A v d
  | _, _, _, _, .nil, e => by cases e
  | _, _, 0, _, .cons h _, e => by cases e; exact ⟨_, _root_.rfl, h⟩
  | _, _, i + 1, _, .cons _ t, e => t.getV (i := i) e
theorem DqAll.take : ∀ {vs : List V} {ds : List PyData} (n : Nat), DqAll K A vs ds → DqAll K A (vs.take n) (ds.take n)
  | _, _, 0, _ => .nil
  | _, _, _ + 1, .nil => .nil
  | _, _, n + 1, .cons h t => .cons h (t.take n)
theorem DqAll.drop : ∀ {vs : List V} {ds : List PyData} (n : Nat), DqAll K A vs ds → DqAll K A (vs.drop n) (ds.drop n)
  | _, _, 0, h => h
  | _, _, _ + 1, .nil => .nil
  | _, _, n + 1, .cons _ t => t.drop n
theorem DqAll.rev {vs : List V} {ds : List PyData} (h : DqAll K A vs ds) : DqAll K A vs.reverse ds.reverse := by
  induction vs generalizing ds with
  | nil => cases h; exact .nil
  | cons v vs ih =>
    cases h with
    | cons h t =>
      rw [List.reverse_cons, List.reverse_cons]
      exact (ih t).app (.cons h .nil)
end

/-! ### states -/
/-- a value: frozen data; an own list, an own dict; what slot i holds -/
inductive S where
  | fz (d : PyData)
  | ol (ds : List PyData)
  | od (kvs : List (Key × PyData))
  | al (i : Nat)
  | sc (ns : List Int)
abbrev PSt := List (Option S)
def S.own : S → Bool
  | .ol _ => true
  | .od _ => true
  | _ => false
abbrev KD (K : PySem.W.Frag) (G : Hp) : List (Key × V) → List (Key × PyData) → Prop :=
  Paired fun (p : Key × V) (q : Key × PyData) => p.1 = q.1 ∧ Dq K G p.2 q.2
theorem kd_up {K : PySem.W.Frag} {A B : Hp} (s : Sub A B) {xs : List (Key × V)} {ys : List (Key × PyData)} (h : KD K A xs ys) : KD K B xs ys :=
  L2.Paired.mapP h fun _ q ⟨e, d⟩ => ⟨e, dq_up s q.2 d⟩
def SlotR (K : PySem.W.Frag) (G H : Hp) : S → V → Prop
  | .fz d, v => Dq K G v d
  | .ol ds, v => ∃ a xs, v = .ref a ∧ G a = none ∧ H a = some (.lst xs) ∧ DqAll K G xs ds
  | .od kvs, v => ∃ a ys, v = .ref a ∧ G a = none ∧ H a = some (.dK ys) ∧ KD K G ys kvs
  | .al _, _ => False
  | .sc ns, v => ∃ a, v = .ref a ∧ SqL K G a (ns.map V.int)
def OwnAt (ρ : PSt) (i : Nat) : Prop := ∃ s, ρ[i]? = some (some s) ∧ s.own = true
def Own (ρ : PSt) (σ : L2.St) (a : Addr) : Prop := ∃ i, OwnAt ρ i ∧ σ[i]? = some (some (.ref a))

/-- a state of data tells a state of values: G is the part of the heap that stays for good -/
structure Rl (K : PySem.W.Frag) (G : Hp) (ρ : PSt) (σ : L2.St) (H : Hp) : Prop where
  sub : Sub G H
  slot : ∀ (i : Nat) (s : S), ρ[i]? = some (some s) → ∃ v, σ[i]? = some (some v) ∧ SlotR K G H s v
  dist : ∀ (i j : Nat) (a : Addr), OwnAt ρ i → OwnAt ρ j → σ[i]? = some (some (.ref a)) → σ[j]? = some (some (.ref a)) → i = j
  len : ρ.length = σ.length

structure Stp (G : Hp) (ρ : PSt) (σ : L2.St) (H : Hp) (G' : Hp) (ρ' : PSt) (σ' : L2.St) (H' : Hp) : Prop where
  sub : Sub G G'
  nw : ∀ (a : Addr) (o : HO), G' a = some o → G a = some o ∨ H a = none ∨ Own ρ σ a
  keep : ∀ (a : Addr) (o : HO), H a = some o → ¬ Own ρ σ a → H' a = some o
  own : ∀ a, Own ρ' σ' a → Own ρ σ a ∨ H a = none
  th : ∀ a, H a ≠ none → H' a ≠ none

theorem Stp.rfl {G : Hp} {ρ : PSt} {σ : L2.St} {H : Hp} : Stp G ρ σ H G ρ σ H :=
  ⟨Sub.rfl, fun _ _ h => .inl h, fun _ _ h _ => h, fun _ h => .inl h, fun _ h => h⟩
theorem Stp.trans {G G1 G2 : Hp} {ρ ρ1 ρ2 : PSt} {σ σ1 σ2 : L2.St} {H H1 H2 : Hp} (p : Stp G ρ σ H G1 ρ1 σ1 H1) (q : Stp G1 ρ1 σ1 H1 G2 ρ2 σ2 H2) : Stp G ρ σ H G2 ρ2 σ2 H2 := by
  have nb : ∀ a, H1 a = none → H a = none := fun a n => by
    cases e : H a with
    | none => rfl
    | some o => exact absurd n (p.th a (by rw [e]; exact fun z => nomatch z))
  refine ⟨p.sub.trans q.sub, fun a o e => ?_, fun a o e n => ?_, fun a h => ?_, fun a h => q.th a (p.th a h)⟩
  · rcases q.nw a o e with h | h | h
    · exact p.nw a o h
    · exact .inr (.inl (nb a h))
    · rcases p.own a h with z | z
      · exact .inr (.inr z)
      · exact .inr (.inl z)
  · refine q.keep a o (p.keep a o e n) fun z => ?_
    rcases p.own a z with z | z
    · exact n z
    · rw [e] at z; cases z
  · rcases q.own a h with z | z
    · exact p.own a z
    · exact .inr (nb a z)
theorem Stp.none_back {G G' : Hp} {ρ ρ' : PSt} {σ σ' : L2.St} {H H' : Hp} (p : Stp G ρ σ H G' ρ' σ' H') {a : Addr} (n : H' a = none) : H a = none := by
  cases e : H a with
  | none => rfl
  | some o => exact absurd n (p.th a (by rw [e]; exact fun z => nomatch z))

/-- an expression's value -/
def ResR (K : PySem.W.Frag) (G' : Hp) (ρ' : PSt) (σ : L2.St) (H H' : Hp) (s : S) (v : V) : Prop :=
  match s with
  | .fz d => Dq K G' v d
  | .al i => σ[i]? = some (some v)
  | .sc ns => SlotR K G' H' (.sc ns) v
  | s => SlotR K G' H' s v ∧ ∀ a, v = .ref a → H a = none ∧ ¬ Own ρ' σ a
structure EvR (K : PySem.W.Frag) (G : Hp) (ρ : PSt) (σ : L2.St) (H : Hp) (s : S) (ρ' : PSt) (v : V) (G' H' : Hp) : Prop where
  rl : Rl K G' ρ' σ H'
  st : Stp G ρ σ H G' ρ' σ H'
  res : ResR K G' ρ' σ H H' s v

theorem SlotR.later {K : PySem.W.Frag} {G1 G2 H1 H2 : Hp} {s : S} {v : V} (h : SlotR K G1 H1 s v) (sg : Sub G1 G2) (hk : s.own = true → ∀ a o, v = .ref a → G1 a = none → H1 a = some o → H2 a = some o ∧ G2 a = none) : SlotR K G2 H2 s v := by
  cases s with
  | fz d => exact dq_up sg d h
  | ol ds =>
    obtain ⟨a, xs, e, g, hh, r⟩ := h
    obtain ⟨k1, k2⟩ := hk _root_.rfl a _ e g hh
    exact ⟨a, xs, e, k2, k1, dqAll_up sg ds r⟩
  | od kvs =>
    obtain ⟨a, xs, e, g, hh, r⟩ := h
    obtain ⟨k1, k2⟩ := hk _root_.rfl a _ e g hh
    exact ⟨a, xs, e, k2, k1, kd_up sg r⟩
  | al i => exact h
  | sc ns => obtain ⟨a, e, q⟩ := h; exact ⟨a, e, sqL_up sg q⟩
theorem SlotR.ref {K : PySem.W.Frag} {G H : Hp} {s : S} {v : V} (h : SlotR K G H s v) (o : s.own = true) : ∃ a u, v = .ref a ∧ G a = none ∧ H a = some u := by
  cases s with
  | fz d => cases o
  | ol ds => obtain ⟨a, xs, e, g, hh, r⟩ := h; exact ⟨a, _, e, g, hh⟩
  | od kvs => obtain ⟨a, xs, e, g, hh, r⟩ := h; exact ⟨a, _, e, g, hh⟩
  | al i => cases o
  | sc ns => cases o
theorem Rl.own_at {K : PySem.W.Frag} {G : Hp} {ρ : PSt} {σ : L2.St} {H : Hp} (R : Rl K G ρ σ H) {a : Addr} (h : Own ρ σ a) : G a = none ∧ ∃ u, H a = some u := by
  obtain ⟨i, ⟨s, e, o⟩, e2⟩ := h
  obtain ⟨v, e3, sr⟩ := R.slot i s e
  rw [e2] at e3
  cases e3
  obtain ⟨b, u, e4, g, hh⟩ := sr.ref o
  cases e4
  exact ⟨g, u, hh⟩
/-- a value is still there behind another expression -/
theorem ResR.later {K : PySem.W.Frag} {G1 G2 : Hp} {ρ1 ρ2 : PSt} {σ : L2.St} {H H1 H2 : Hp} {s : S} {v : V} (h : ResR K G1 ρ1 σ H H1 s v) (p : Stp G1 ρ1 σ H1 G2 ρ2 σ H2) : ResR K G2 ρ2 σ H H2 s v := by
  have gen : ∀ s : S, s.own = true → (SlotR K G1 H1 s v ∧ ∀ a, v = .ref a → H a = none ∧ ¬ Own ρ1 σ a) → (SlotR K G2 H2 s v ∧ ∀ a, v = .ref a → H a = none ∧ ¬ Own ρ2 σ a) := by
    intro s so ⟨q, fr⟩
    obtain ⟨b, u, eb, g, hb⟩ := q.ref so
    subst eb
    obtain ⟨f1, f2⟩ := fr b _root_.rfl
    refine ⟨q.later p.sub fun _ a o e g1 h1 => ?_, fun a e => ?_⟩
    · cases e
      refine ⟨p.keep b o h1 f2, ?_⟩
      cases e2 : G2 b with
      | none => rfl
      | some o2 =>
        rcases p.nw b o2 e2 with z | z | z
        · rw [g] at z; cases z
        · rw [hb] at z; cases z
        · exact absurd z f2
    · cases e
      refine ⟨f1, fun z => ?_⟩
      rcases p.own b z with z | z
      · exact f2 z
      · rw [hb] at z; cases z
  cases s with
  | fz d => exact dq_up p.sub d h
  | ol ds => exact gen _ _root_.rfl h
  | od kvs => exact gen _ _root_.rfl h
  | al i => exact h
  | sc ns => obtain ⟨a, e, q⟩ := h; exact ⟨a, e, sqL_up p.sub q⟩
theorem ResR.back {K : PySem.W.Frag} {G' : Hp} {ρ' : PSt} {σ : L2.St} {H H1 H' : Hp} {s : S} {v : V} (h : ResR K G' ρ' σ H1 H' s v) (nb : ∀ a, H1 a = none → H a = none) : ResR K G' ρ' σ H H' s v := by
  cases s with
  | fz d => exact h
  | ol ds => exact ⟨h.1, fun a e => ⟨nb a (h.2 a e).1, (h.2 a e).2⟩⟩
  | od kvs => exact ⟨h.1, fun a e => ⟨nb a (h.2 a e).1, (h.2 a e).2⟩⟩
  | al i => exact h
  | sc ns => exact h

/-! ### reading -/
/-- read now: data whose items stay -/
def PkR (K : PySem.W.Frag) (G H : Hp) (v : V) (d : PyData) : Prop :=
  Dq K G v d ∨ ∃ a xs ds, v = .ref a ∧ d = .list ds ∧ H a = some (.lst xs) ∧ DqAll K G xs ds
theorem PkR.dq {K : PySem.W.Frag} {G H : Hp} {v : V} {d : PyData} (s : Sub G H) (h : PkR K G H v d) : Dq K H v d := by
  rcases h with h | ⟨a, xs, ds, e, e2, hh, r⟩
  · exact dq_up s d h
  · subst e e2
    exact .lst hh (dqAll_up s ds r)
theorem PkR.list {K : PySem.W.Frag} {G H : Hp} {v : V} {ds : List PyData} (s : Sub G H) (h : PkR K G H v (.list ds)) : ∃ a xs, v = .ref a ∧ H a = some (.lst xs) ∧ DqAll K G xs ds := by
  rcases h with h | ⟨a, xs, ds', e, e2, hh, r⟩
  · cases h with
    | lst h1 h2 => exact ⟨_, _, rfl, s _ _ h1, h2⟩
  · cases e2
    exact ⟨a, xs, e, hh, r⟩
theorem PkR.tup {K : PySem.W.Frag} {G H : Hp} {v : V} {ds : List PyData} (s : Sub G H) (h : PkR K G H v (.tuple ds)) : ∃ a xs, v = .ref a ∧ SqT K H a xs ∧ DqAll K G xs ds ∧ SqT K G a xs := by
  rcases h with h | ⟨a, xs, ds', e, e2, hh, r⟩
  · cases h with
    | tup h1 h2 => exact ⟨_, _, rfl, sqT_up s h1, h2, h1⟩
  · cases e2
theorem PkR.int {K : PySem.W.Frag} {G H : Hp} {v : V} {i : Int} (h : PkR K G H v (.int i)) : v = .int i := by
  rcases h with h | ⟨a, xs, ds', e, e2, hh, r⟩
  · cases h; rfl
  · cases e2
theorem PkR.str {K : PySem.W.Frag} {G H : Hp} {v : V} {i : Str} (h : PkR K G H v (.str i)) : v = .str i := by
  rcases h with h | ⟨a, xs, ds', e, e2, hh, r⟩
  · cases h; rfl
  · cases e2
theorem PkR.bool {K : PySem.W.Frag} {G H : Hp} {v : V} {i : Bool} (h : PkR K G H v (.bool i)) : v = .bl i := by
  rcases h with h | ⟨a, xs, ds', e, e2, hh, r⟩
  · cases h; rfl
  · cases e2
theorem PkR.none {K : PySem.W.Frag} {G H : Hp} {v : V} (h : PkR K G H v .none) : v = .non := by
  rcases h with h | ⟨a, xs, ds', e, e2, hh, r⟩
  · cases h; rfl
  · cases e2
def cellD : Option (Option S) → Option PyData
  | some (some (.fz d)) => some d
  | some (some (.ol ds)) => some (.list ds)
  | _ => none
def S.peek (ρ : PSt) : S → Option PyData
  | .fz d => some d
  | .ol ds => some (.list ds)
  | .od _ => none
  | .sc _ => none
  | .al i => cellD ρ[i]?
theorem slot_peek {K : PySem.W.Frag} {G H : Hp} {v : V} : ∀ {s : S} {d : PyData} {ρ : PSt}, SlotR K G H s v → s.peek ρ = some d → PkR K G H v d
  | .fz d, _, _, h, e => by cases e; exact .inl h
  | .ol ds, _, _, h, e => by
    cases e
    obtain ⟨a, xs, e, g, hh, r⟩ := h
    exact .inr ⟨a, xs, ds, e, rfl, hh, r⟩
  | .od _, _, _, _, e => by cases e
  | .al _, _, _, h, _ => h.elim
  | .sc _, _, _, _, e => by cases e
theorem peek_ok {K : PySem.W.Frag} {G' : Hp} {ρ' : PSt} {σ : L2.St} {H H' : Hp} {s : S} {v : V} {d : PyData} (R : Rl K G' ρ' σ H') (h : ResR K G' ρ' σ H H' s v) (e : s.peek ρ' = some d) : PkR K G' H' v d := by
  cases s with
  | fz d' => exact slot_peek (s := .fz d') (ρ := ρ') h e
  | ol ds => exact slot_peek h.1 e
  | od kvs => cases e
  | sc _ => cases e
  | al i =>
    have e5 : cellD ρ'[i]? = some d := e
    have e4 : σ[i]? = some (some v) := h
    cases q : ρ'[i]? with
    | none => rw [q] at e5; cases e5
    | some z =>
      cases z with
      | none => rw [q] at e5; cases e5
      | some s =>
        obtain ⟨v', e3, sr⟩ := R.slot i _ q
        rw [e4] at e3
        cases e3
        rw [q] at e5
        cases s with
        | fz d' => cases e5; exact .inl sr
        | ol ds => cases e5; exact slot_peek (ρ := []) sr rfl
        | od _ => cases e5
        | al _ => cases e5
        | sc _ => cases e5

/-! ### freezing -/
def cellF (ρ : PSt) (i : Nat) : Option (Option S) → Option (PyData × PSt)
  | some (some (.fz d)) => some (d, ρ)
  | some (some (.ol ds)) => some (.list ds, ρ.set i (some (.fz (.list ds))))
  | _ => none
def S.frz (ρ : PSt) : S → Option (PyData × PSt)
  | .fz d => some (d, ρ)
  | .ol ds => some (.list ds, ρ)
  | .od _ => none
  | .sc _ => none
  | .al i => cellF ρ i ρ[i]?
theorem ownAt_set {ρ : PSt} {i j : Nat} {d : PyData} (h : OwnAt (ρ.set i (some (.fz d))) j) : OwnAt ρ j ∧ j ≠ i := by
  obtain ⟨s, e, o⟩ := h
  by_cases hj : i = j
  · subst hj
    rw [List.getElem?_set_self'] at e
    cases q : ρ[i]? with
    | none => rw [q] at e; cases e
    | some z => rw [q] at e; cases e; cases o
  · rw [List.getElem?_set_ne hj] at e
    exact ⟨⟨s, e, o⟩, fun z => hj z.symm⟩
theorem own_set {ρ : PSt} {σ : L2.St} {i : Nat} {d : PyData} {a : Addr} (h : Own (ρ.set i (some (.fz d))) σ a) : Own ρ σ a := by
  obtain ⟨j, h, e⟩ := h
  exact ⟨j, (ownAt_set h).1, e⟩
theorem frz_ok {K : PySem.W.Frag} {G G' : Hp} {ρ ρ' ρ2 : PSt} {σ : L2.St} {H H' : Hp} {s : S} {v : V} {d : PyData} (E : EvR K G ρ σ H s ρ' v G' H') (e : s.frz ρ' = some (d, ρ2)) : ∃ G2, EvR K G ρ σ H (.fz d) ρ2 v G2 H' := by
  obtain ⟨R, p, h⟩ := E
  cases s with
  | fz d' => cases e; exact ⟨G', R, p, h⟩
  | od kvs => cases e
  | sc _ => cases e
  | ol ds =>
    cases e
    obtain ⟨⟨a, xs, ea, g, hh, r⟩, fr⟩ := h
    subst ea
    obtain ⟨f1, f2⟩ := fr a _root_.rfl
    have up : Sub G' (upd G' a (.lst xs)) := Sub.up g
    refine ⟨upd G' a (.lst xs), ⟨fun b o q => ?_, fun i s q => ?_, R.dist, R.len⟩, ⟨p.sub.trans up, fun b o q => ?_, p.keep, p.own, p.th⟩, ?_⟩
    · by_cases hb : b = a
      · subst hb; rw [upd_same] at q; cases q; exact hh
      · rw [upd_ne hb] at q; exact R.sub b o q
    · obtain ⟨v, e1, sr⟩ := R.slot i s q
      refine ⟨v, e1, sr.later up fun so b o eb g1 h1 => ⟨h1, ?_⟩⟩
      rw [upd_ne]
      · exact g1
      · rintro rfl
        exact f2 ⟨i, ⟨s, q, so⟩, by rw [e1, eb]⟩
    · by_cases hb : b = a
      · subst hb; exact .inr (.inl f1)
      · rw [upd_ne hb] at q; exact p.nw b o q
    · exact .lst upd_same (dqAll_up up ds r)
  | al i =>
    have e5 : cellF ρ' i ρ'[i]? = some (d, ρ2) := e
    have e4 : σ[i]? = some (some v) := h
    cases e2 : ρ'[i]? with
    | none => rw [e2] at e5; cases e5
    | some z =>
    cases z with
    | none => rw [e2] at e5; cases e5
    | some s =>
    obtain ⟨v', e3, sr⟩ := R.slot i _ e2
    rw [e4] at e3
    cases e3
    rw [e2] at e5
    cases s with
    | od _ => cases e5
    | al _ => cases e5
    | sc _ => cases e5
    | fz d' => cases e5; exact ⟨G', R, p, sr⟩
    | ol ds =>
      cases e5
      obtain ⟨a, xs, ea, g, hh, r⟩ := sr
      subst ea
      have up : Sub G' (upd G' a (.lst xs)) := Sub.up g
      have oi : OwnAt ρ' i := ⟨_, e2, _root_.rfl⟩
      have il : i < ρ'.length := (List.getElem?_eq_some_iff.mp e2).1
      refine ⟨upd G' a (.lst xs), ⟨fun b o q => ?_, fun j s q => ?_, fun j k b hj hk => R.dist j k b (ownAt_set hj).1 (ownAt_set hk).1, List.length_set.trans R.len⟩, ⟨p.sub.trans up, fun b o q => ?_, p.keep, fun b hb => p.own b (own_set hb), p.th⟩, ?_⟩
      · by_cases hb : b = a
        · subst hb; rw [upd_same] at q; cases q; exact hh
        · rw [upd_ne hb] at q; exact R.sub b o q
      · by_cases hj : i = j
        · subst hj
          rw [List.getElem?_set_self il] at q
          cases q
          exact ⟨_, e4, .lst upd_same (dqAll_up up ds r)⟩
        · rw [List.getElem?_set_ne hj] at q
          obtain ⟨v, e1, sr⟩ := R.slot j s q
          refine ⟨v, e1, sr.later up fun so b o eb g1 h1 => ⟨h1, ?_⟩⟩
          rw [upd_ne]
          · exact g1
          · rintro rfl
            exact hj (R.dist i j b oi ⟨s, q, so⟩ e4 (by rw [e1, eb]))
      · by_cases hb : b = a
        · subst hb
          rcases p.own b ⟨i, oi, e4⟩ with z | z
          · exact .inr (.inr z)
          · exact .inr (.inl z)
        · rw [upd_ne hb] at q; exact p.nw b o q
      · exact .lst upd_same (dqAll_up up ds r)
end DL

/-! D2: expressions told as functions of states of data. -/
namespace DL
open L2 PySem PySem.Spec PyProof.Rows

abbrev EF := PSt → Option (S × PSt)
abbrev TF := PSt → Option (Bool × PSt)
abbrev AF := PSt → Option (List S × PSt)
def DE (X : Cx) (e : Expr) (f : EF) : Prop :=
  ∃ t, PE X e t ∧ ∀ (G : Hp) (ρ : PSt) (σ : L2.St) (H : Hp) (s : S) (ρ' : PSt) (Q : VK), Rl X.K G ρ σ H → f ρ = some (s, ρ') → (∀ v G' H', EvR X.K G ρ σ H s ρ' v G' H' → Q v H') → t σ H Q
def TOk (K : PySem.W.Frag) (t : TT) (f : TF) : Prop :=
  ∀ (G : Hp) (ρ : PSt) (σ : L2.St) (H : Hp) (b : Bool) (ρ' : PSt) (Q : Bool → Hp → Prop), Rl K G ρ σ H → f ρ = some (b, ρ') → (∀ G' H', Rl K G' ρ' σ H' → Stp G ρ σ H G' ρ' σ H' → Q b H') → t σ H Q
def DT (X : Cx) (e : Expr) (f : TF) : Prop := ∃ t, PT X e t ∧ TOk X.K t f
def DW (X : Cx) (e : Expr) (f : TF) : Prop := ∃ t, PW X e t ∧ TOk X.K t f
def ArgR (K : PySem.W.Frag) (G : Hp) (σ : L2.St) : S → V → Prop
  | .fz d, v => Dq K G v d
  | .al i, v => σ[i]? = some (some v)
  | .sc ns, v => ∃ a, v = .ref a ∧ SqL K G a (ns.map V.int)
  | _, _ => False
abbrev ArgsR (K : PySem.W.Frag) (G : Hp) (σ : L2.St) : List S → List V → Prop := Paired (ArgR K G σ)
def DA (X : Cx) (es : List Expr) (f : AF) : Prop :=
  ∃ t, PA X es t ∧ ∀ (G : Hp) (ρ : PSt) (σ : L2.St) (H : Hp) (ss : List S) (ρ' : PSt) (Q : List V → Hp → Prop), Rl X.K G ρ σ H → f ρ = some (ss, ρ') →
    (∀ vs G' H', Rl X.K G' ρ' σ H' → Stp G ρ σ H G' ρ' σ H' → ArgsR X.K G' σ ss vs → Q vs H') → t σ H Q
theorem ArgR.up {K : PySem.W.Frag} {G G' : Hp} {σ : L2.St} {s : S} {v : V} (h : ArgR K G σ s v) (p : Sub G G') : ArgR K G' σ s v := by
  cases s with
  | fz d => exact dq_up p d h
  | al i => exact h
  | sc ns => obtain ⟨a, e, q⟩ := h; exact ⟨a, e, sqL_up p q⟩
  | ol _ => exact h.elim
  | od _ => exact h.elim
theorem ArgsR.up {K : PySem.W.Frag} {G G' : Hp} {σ : L2.St} {ss : List S} {vs : List V} (h : ArgsR K G σ ss vs) (p : Sub G G') : ArgsR K G' σ ss vs := L2.Paired.mapP h fun _ _ q => q.up p
theorem ArgR.res {K : PySem.W.Frag} {G : Hp} {ρ : PSt} {σ : L2.St} {H H' : Hp} {s : S} {v : V} (h : ArgR K G σ s v) : ResR K G ρ σ H H' s v := by
  cases s with
  | fz d => exact h
  | al i => exact h
  | sc ns => exact h
  | ol _ => exact h.elim
  | od _ => exact h.elim

theorem of_bind {α β : Type} {x : Option α} {f : α → Option β} {y : β} (h : x.bind f = some y) : ∃ a, x = some a ∧ f a = some y := Option.bind_eq_some_iff.mp h
theorem of_map {α β : Type} {x : Option α} {f : α → β} {y : β} (h : x.map f = some y) : ∃ a, x = some a ∧ f a = y := Option.map_eq_some_iff.mp h

/-! ### what operations make -/
def ResN (K : PySem.W.Frag) (G' H H' : Hp) : S → V → Prop
  | .fz d, v => Dq K G' v d
  | .ol ds, v => ∃ a xs, v = .ref a ∧ H a = none ∧ G' a = none ∧ H' a = some (.lst xs) ∧ DqAll K G' xs ds
  | .od kvs, v => ∃ a ys, v = .ref a ∧ H a = none ∧ G' a = none ∧ H' a = some (.dK ys) ∧ KD K G' ys kvs
  | _, _ => False
structure NewR (K : PySem.W.Frag) (G H : Hp) (s : S) (v : V) (G' H' : Hp) : Prop where
  sg : Sub G G'
  sh : Sub H H'
  sub : Sub G' H'
  nw : ∀ (a : Addr) (o : HO), G' a = some o → G a = some o ∨ H a = none
  res : ResN K G' H H' s v
theorem NewR.same {K : PySem.W.Frag} {G H : Hp} {d : PyData} {v : V} (s : Sub G H) (h : Dq K G v d) : NewR K G H (.fz d) v G H := ⟨Sub.rfl, Sub.rfl, s, fun _ _ h => .inl h, h⟩
theorem NewR.lst {K : PySem.W.Frag} {G H : Hp} {ds : List PyData} {xs : List V} {p : Addr} (s : Sub G H) (n : H p = none) (h : DqAll K G xs ds) : NewR K G H (.ol ds) (.ref p) G (upd H p (.lst xs)) :=
  ⟨Sub.rfl, Sub.up n, s.trans (Sub.up n), fun _ _ h => .inl h, p, xs, rfl, n, none_back s n, upd_same, h⟩
theorem NewR.dic {K : PySem.W.Frag} {G H : Hp} {ds : List (Key × PyData)} {xs : List (Key × V)} {p : Addr} (s : Sub G H) (n : H p = none) (h : KD K G xs ds) : NewR K G H (.od ds) (.ref p) G (upd H p (.dK xs)) :=
  ⟨Sub.rfl, Sub.up n, s.trans (Sub.up n), fun _ _ h => .inl h, p, xs, rfl, n, none_back s n, upd_same, h⟩
theorem NewR.tup {K : PySem.W.Frag} {G H : Hp} {ds : List PyData} {xs : List V} {p : Addr} (s : Sub G H) (n : H p = none) (h : DqAll K G xs ds) : NewR K G H (.fz (.tuple ds)) (.ref p) (upd G p (.tup xs)) (upd H p (.tup xs)) := by
  have g : G p = none := none_back s n
  refine ⟨Sub.up g, Sub.up n, fun b o e => ?_, fun b o e => ?_, .tup (.of upd_same) (dqAll_up (Sub.up g) ds h)⟩
  · by_cases hb : b = p
    · subst hb; rw [upd_same] at e; cases e; exact upd_same
    · rw [upd_ne hb] at e ⊢; exact s b o e
  · by_cases hb : b = p
    · subst hb; exact .inr n
    · rw [upd_ne hb] at e; exact .inl e
theorem Rl.new {K : PySem.W.Frag} {G H G' H' : Hp} {ρ : PSt} {σ : L2.St} (R : Rl K G ρ σ H) (sg : Sub G G') (sh : Sub H H') (sub : Sub G' H') (nw : ∀ (a : Addr) (o : HO), G' a = some o → G a = some o ∨ H a = none) : Rl K G' ρ σ H' := by
  refine ⟨sub, fun i s e => ?_, R.dist, R.len⟩
  obtain ⟨v, e1, sr⟩ := R.slot i s e
  refine ⟨v, e1, sr.later sg fun so a o ea g h => ⟨sh a o h, ?_⟩⟩
  cases q : G' a with
  | none => rfl
  | some o2 =>
    rcases nw a o2 q with z | z
    · rw [g] at z; cases z
    · rw [h] at z; cases z
theorem Stp.new {G H G' H' : Hp} {ρ : PSt} {σ : L2.St} (sg : Sub G G') (sh : Sub H H') (nw : ∀ (a : Addr) (o : HO), G' a = some o → G a = some o ∨ H a = none) : Stp G ρ σ H G' ρ σ H' :=
  ⟨sg, fun a o e => (nw a o e).elim .inl fun z => .inr (.inl z), fun a o e _ => sh a o e, fun _ h => .inl h, fun a h => by
    cases q : H a with
    | none => exact absurd q h
    | some o => rw [sh a o q]; exact fun z => nomatch z⟩
theorem ev_new {K : PySem.W.Frag} {G0 G H0 H G' H' : Hp} {ρ0 ρ : PSt} {σ : L2.St} {s : S} {v : V} (R : Rl K G ρ σ H) (p : Stp G0 ρ0 σ H0 G ρ σ H) (N : NewR K G H s v G' H') : EvR K G0 ρ0 σ H0 s ρ v G' H' := by
  have R' := R.new N.sg N.sh N.sub N.nw
  refine ⟨R', p.trans (Stp.new N.sg N.sh N.nw), ?_⟩
  have no : ∀ a, H a = none → H0 a = none ∧ ¬ Own ρ σ a := fun a n => ⟨p.none_back n, fun z => by
    obtain ⟨_, u, e⟩ := R.own_at z
    rw [n] at e; cases e⟩
  have r := N.res
  cases s with
  | fz d => exact r
  | ol ds =>
    obtain ⟨a, xs, e, n, g, h, q⟩ := r
    exact ⟨⟨a, xs, e, g, h, q⟩, fun b eb => by rw [e] at eb; cases eb; exact no a n⟩
  | od ds =>
    obtain ⟨a, xs, e, n, g, h, q⟩ := r
    exact ⟨⟨a, xs, e, g, h, q⟩, fun b eb => by rw [e] at eb; cases eb; exact no a n⟩
  | al i => exact r.elim
  | sc i => exact r.elim

/-! ### names, constants -/
def cellV (ρ : PSt) (i : Nat) : Option (Option S) → Option (S × PSt)
  | some (some (.fz d)) => some (.fz d, ρ)
  | some (some (.sc d)) => some (.sc d, ρ)
  | some (some (.ol _)) => some (.al i, ρ)
  | some (some (.od _)) => some (.al i, ρ)
  | _ => none
def varF (i : Nat) : EF := fun ρ => cellV ρ i ρ[i]?
def cF (d : PyData) : EF := fun ρ => some (.fz d, ρ)
section
variable {X : Cx} {pos : Pos}
theorem EvR.same {K : PySem.W.Frag} {G H : Hp} {ρ : PSt} {σ : L2.St} {s : S} {v : V} (R : Rl K G ρ σ H) (h : ResR K G ρ σ H H s v) : EvR K G ρ σ H s ρ v G H := ⟨R, Stp.rfl, h⟩
theorem de_var {i : Nat} {x : Str} (hN : X.N[i]? = some x) (hv : Vis X.env.scope x) (hd : (x == ("__debug__" : Str)) = false := by decide) (hcd : (x == ("__classdict__" : Str)) = false := by decide) : DE X (.Name x pos) (varF i) := by
  refine ⟨tVar i, pe_var hN hv hd hcd, fun G ρ σ H s ρ' Q R e q => ?_⟩
  have e5 : cellV ρ i ρ[i]? = some (s, ρ') := e
  cases e2 : ρ[i]? with
  | none => rw [e2] at e5; cases e5
  | some z =>
    cases z with
    | none => rw [e2] at e5; cases e5
    | some s1 =>
      obtain ⟨v, e3, sr⟩ := R.slot i _ e2
      rw [e2] at e5
      refine ⟨v, e3, ?_⟩
      cases s1 with
      | fz d => cases e5; exact q v G H (.same R sr)
      | sc d => cases e5; exact q v G H (.same R sr)
      | ol ds => cases e5; exact q v G H (.same R e3)
      | od ds => cases e5; exact q v G H (.same R e3)
      | al j => cases e5
theorem de_of_c {e : Expr} {v : V} {d : PyData} (h : PE X e (tC v)) (hv : ∀ G, Dq X.K G v d) : DE X e (cF d) :=
  ⟨tC v, h, fun G ρ σ H s ρ' Q R e q => by cases e; exact q v G H (.same R (hv G))⟩
theorem de_int {i j} : DE X (.Constant (.int i) j pos) (cF (.int i)) := de_of_c pe_int fun _ => .int i
theorem de_str {x j} : DE X (.Constant (.str x) j pos) (cF (.str x)) := de_of_c pe_str fun _ => .str x
theorem de_bl {b j} : DE X (.Constant (.bool b) j pos) (cF (.bool b)) := de_of_c pe_bl fun _ => .bl b
theorem de_non {j} : DE X (.Constant .none j pos) (cF .none) := de_of_c pe_non fun _ => .non

/-! ### argument lists -/
def argS (s : S) (ρ : PSt) : Option (S × PSt) :=
  match s with
  | .fz d => some (.fz d, ρ)
  | .sc d => some (.sc d, ρ)
  | .ol ds => some (.fz (.list ds), ρ)
  | .od _ => none
  | .al i => some (.al i, ρ)
theorem argS_ok {K : PySem.W.Frag} {G H G1 H1 : Hp} {ρ ρ1 ρ2 : PSt} {σ : L2.St} {s s2 : S} {v : V} (E : EvR K G ρ σ H s ρ1 v G1 H1) (e : argS s ρ1 = some (s2, ρ2)) : ∃ G2, Rl K G2 ρ2 σ H1 ∧ Stp G ρ σ H G2 ρ2 σ H1 ∧ ArgR K G2 σ s2 v := by
  cases s with
  | fz d => cases e; exact ⟨G1, E.rl, E.st, E.res⟩
  | sc d => cases e; exact ⟨G1, E.rl, E.st, E.res⟩
  | al d => cases e; exact ⟨G1, E.rl, E.st, E.res⟩
  | od d => cases e
  | ol ds =>
    cases e
    obtain ⟨G2, E2⟩ := frz_ok (d := .list ds) (ρ2 := ρ1) E rfl
    exact ⟨G2, E2.rl, E2.st, E2.res⟩
def nilF : AF := fun ρ => some ([], ρ)
def consF (f : EF) (g : AF) : AF := fun ρ => (f ρ).bind fun p => (argS p.1 p.2).bind fun q => (g q.2).map fun r => (q.1 :: r.1, r.2)
theorem da_nil : DA X [] nilF := ⟨tNil, pa_nil, fun G ρ σ H ss ρ' Q R e q => by cases e; exact q [] G H R Stp.rfl .nil⟩
theorem da_cons {e : Expr} {es : List Expr} {f : EF} {g : AF} (ha : DE X e f) (hr : DA X es g) (hs : starEach (e :: es) X.env = (false, eval e X.env) :: starEach es X.env := by rfl) : DA X (e :: es) (consF f g) := by
  obtain ⟨ta, pa, sa⟩ := ha
  obtain ⟨tr, pr, sr⟩ := hr
  refine ⟨tCons ta tr, pa_cons pa pr hs, fun G ρ σ H ss ρ' Q R e q => ?_⟩
  obtain ⟨⟨s1, ρ1⟩, e1, e⟩ := of_bind e
  obtain ⟨⟨s2, ρ2⟩, e2, e⟩ := of_bind e
  obtain ⟨⟨s3, ρ3⟩, e3, e⟩ := of_map e
  cases e
  refine sa G ρ σ H s1 ρ1 _ R e1 fun v G1 H1 E1 => ?_
  obtain ⟨G2, R2, p2, a2⟩ := argS_ok E1 e2
  refine sr G2 ρ2 σ H1 s3 ρ3 _ R2 e3 fun vs G3 H3 R3 p3 a3 => ?_
  exact q (v :: vs) G3 H3 R3 (p2.trans p3) (.cons (a2.up p3.sub) a3)

/-- freeze all -/
def frzAll : List S → PSt → Option (List PyData × PSt)
  | [], ρ => some ([], ρ)
  | s :: ss, ρ => (s.frz ρ).bind fun p => (frzAll ss p.2).map fun r => (p.1 :: r.1, r.2)
theorem frzAll_ok {K : PySem.W.Frag} {G H H' : Hp} {ρ : PSt} {σ : L2.St} : ∀ {ss : List S} {vs : List V} {ds : List PyData} {G' : Hp} {ρ' ρ2 : PSt}, Rl K G' ρ' σ H' → Stp G ρ σ H G' ρ' σ H' → ArgsR K G' σ ss vs → frzAll ss ρ' = some (ds, ρ2) →
    ∃ G2, Rl K G2 ρ2 σ H' ∧ Stp G ρ σ H G2 ρ2 σ H' ∧ DqAll K G2 vs ds ∧ Sub G' G2
  | [], _, _, G', _, _, R, p, .nil, e => by cases e; exact ⟨G', R, p, .nil, Sub.rfl⟩
  | s :: ss, _, _, G', ρ', _, R, p, .cons a as, e => by
    obtain ⟨⟨d, ρ1⟩, e1, e⟩ := of_bind e
    obtain ⟨⟨ds, ρ3⟩, e2, e⟩ := of_map e
    cases e
    obtain ⟨G1, E1⟩ := frz_ok (G := G') (ρ := ρ') (H := H') (ρ' := ρ') (G' := G') (H' := H') ⟨R, Stp.rfl, a.res⟩ e1
    obtain ⟨G2, R2, p2, q2, s2⟩ := frzAll_ok (G' := G1) E1.rl (p.trans E1.st) (ArgsR.up as E1.st.sub) e2
    exact ⟨G2, R2, p2, .cons (dq_up s2 d E1.res) q2, E1.st.sub.trans s2⟩
def peekAll (ρ : PSt) : List S → Option (List PyData)
  | [] => some []
  | s :: ss => (s.peek ρ).bind fun d => (peekAll ρ ss).map fun ds => d :: ds
abbrev PkAll (K : PySem.W.Frag) (G H : Hp) : List V → List PyData → Prop := Paired (PkR K G H)
theorem peekAll_ok {K : PySem.W.Frag} {G H : Hp} {ρ : PSt} {σ : L2.St} (R : Rl K G ρ σ H) : ∀ {ss : List S} {vs : List V} {ds : List PyData}, ArgsR K G σ ss vs → peekAll ρ ss = some ds → PkAll K G H vs ds
  | [], _, _, .nil, e => by cases e; exact .nil
  | s :: ss, _, _, .cons a as, e => by
    obtain ⟨d, e1, e⟩ := of_bind e
    obtain ⟨ds, e2, e⟩ := of_map e
    cases e
    exact .cons (peek_ok (H := H) R a.res e1) (peekAll_ok R as e2)

/-! ### displays -/
def okN (n : Nat) : Bool := decide (n ≤ 100000)
theorem okN_le {n : Nat} (h : okN n = true) : n ≤ sizeLine := Nat.le_trans (of_decide_eq_true h) (by decide)
def tupF (f : AF) : EF := fun ρ => (f ρ).bind fun p => (frzAll p.1 p.2).bind fun q => if okN q.1.length then some (.fz (.tuple q.1), q.2) else none
def lstF (f : AF) : EF := fun ρ => (f ρ).bind fun p => (frzAll p.1 p.2).bind fun q => if okN q.1.length then some (.ol q.1, q.2) else none
theorem de_tup {es : List Expr} {f : AF} {x1} (h : DA X es f) : DE X (.Tuple es x1 pos) (tupF f) := by
  obtain ⟨ta, pa, sa⟩ := h
  refine ⟨tTup ta, pe_tup pa, fun G ρ σ H s ρ' Q R e q => ?_⟩
  obtain ⟨⟨ss, ρ1⟩, e1, e⟩ := of_bind e
  obtain ⟨⟨ds, ρ2⟩, e2, e⟩ := of_bind e
  refine sa G ρ σ H ss ρ1 _ R e1 fun vs G1 H1 R1 p1 a1 => ?_
  obtain ⟨G2, R2, p2, d2, _⟩ := frzAll_ok R1 p1 a1 e2
  by_cases c : okN ds.length = true
  · rw [if_pos c] at e
    cases e
    exact ⟨by rw [d2.len]; exact okN_le c, fun p n => q _ _ _ (ev_new R2 p2 (NewR.tup R2.sub n d2))⟩
  · rw [if_neg c] at e; cases e
theorem de_lst {es : List Expr} {f : AF} (h : DA X es f) : DE X (.List es pos) (lstF f) := by
  obtain ⟨ta, pa, sa⟩ := h
  refine ⟨tLst ta, pe_lst pa, fun G ρ σ H s ρ' Q R e q => ?_⟩
  obtain ⟨⟨ss, ρ1⟩, e1, e⟩ := of_bind e
  obtain ⟨⟨ds, ρ2⟩, e2, e⟩ := of_bind e
  refine sa G ρ σ H ss ρ1 _ R e1 fun vs G1 H1 R1 p1 a1 => ?_
  obtain ⟨G2, R2, p2, d2, _⟩ := frzAll_ok R1 p1 a1 e2
  by_cases c : okN ds.length = true
  · rw [if_pos c] at e
    cases e
    exact ⟨by rw [d2.len]; exact okN_le c, fun p n => q _ _ _ (ev_new R2 p2 (NewR.lst R2.sub n d2))⟩
  · rw [if_neg c] at e; cases e

/-! ### operations by values -/
def DOp (X : Cx) (f : Value → Value → Sem Value) (g : PyData → PyData → Option S) : Prop :=
  ∃ r, OpR X f r ∧ ∀ (G H : Hp) (x y : V) (d e : PyData) (s : S) (Q : VK), Sub G H → PkR X.K G H x d → PkR X.K G H y e → g d e = some s → (∀ v G' H', NewR X.K G H s v G' H' → Q v H') → r x y H Q
def orG (g1 g2 : PyData → PyData → Option S) : PyData → PyData → Option S := fun d e => match g1 d e with
  | some s => some s
  | none => g2 d e
theorem DOp.or {f : Value → Value → Sem Value} {g1 g2 : PyData → PyData → Option S} (h1 : DOp X f g1) (h2 : DOp X f g2) : DOp X f (orG g1 g2) := by
  obtain ⟨r1, o1, s1⟩ := h1
  obtain ⟨r2, o2, s2⟩ := h2
  refine ⟨_, o1.or o2, fun G H x y d e s Q sg px py eg q => ?_⟩
  unfold orG at eg
  split at eg
  · rename_i s' e1
    cases eg
    exact .inl (s1 G H x y d e _ Q sg px py e1 q)
  · exact .inr (s2 G H x y d e s Q sg px py eg q)
def opF (g : PyData → PyData → Option S) (f1 f2 : EF) : EF := fun ρ =>
  (f1 ρ).bind fun p => (f2 p.2).bind fun q => (p.1.peek q.2).bind fun d => (q.1.peek q.2).bind fun e => (g d e).map fun s => (s, q.2)
theorem op_run {f : Value → Value → Sem Value} {g : PyData → PyData → Option S} {f1 f2 : EF} {r : R2} {ta tb : TE} (hs : ∀ (G H : Hp) (x y : V) (d e : PyData) (s : S) (Q : VK), Sub G H → PkR X.K G H x d → PkR X.K G H y e → g d e = some s → (∀ v G' H', NewR X.K G H s v G' H' → Q v H') → r x y H Q)
    (sa : ∀ (G : Hp) (ρ : PSt) (σ : L2.St) (H : Hp) (s : S) (ρ' : PSt) (Q : VK), Rl X.K G ρ σ H → f1 ρ = some (s, ρ') → (∀ v G' H', EvR X.K G ρ σ H s ρ' v G' H' → Q v H') → ta σ H Q)
    (sb : ∀ (G : Hp) (ρ : PSt) (σ : L2.St) (H : Hp) (s : S) (ρ' : PSt) (Q : VK), Rl X.K G ρ σ H → f2 ρ = some (s, ρ') → (∀ v G' H', EvR X.K G ρ σ H s ρ' v G' H' → Q v H') → tb σ H Q)
    {G : Hp} {ρ : PSt} {σ : L2.St} {H : Hp} {s : S} {ρ' : PSt} {Q : VK} (R : Rl X.K G ρ σ H) (e : opF g f1 f2 ρ = some (s, ρ')) (q : ∀ v G' H', EvR X.K G ρ σ H s ρ' v G' H' → Q v H') : tOp r ta tb σ H Q := by
  obtain ⟨⟨s1, ρ1⟩, e1, e⟩ := of_bind e
  obtain ⟨⟨s2, ρ2⟩, e2, e⟩ := of_bind e
  obtain ⟨d1, e3, e⟩ := of_bind e
  obtain ⟨d2, e4, e⟩ := of_bind e
  obtain ⟨s', e5, e⟩ := of_map e
  cases e
  refine sa G ρ σ H s1 ρ1 _ R e1 fun v G1 H1 E1 => ?_
  refine sb G1 ρ1 σ H1 s2 ρ2 _ E1.rl e2 fun u G2 H2 E2 => ?_
  exact hs G2 H2 v u d1 d2 s _ E2.rl.sub (peek_ok E2.rl (E1.res.later E2.st) e3) (peek_ok E2.rl E2.res e4) e5 fun w G3 H3 N => q w G3 H3 (ev_new E2.rl (E1.st.trans E2.st) N)
theorem de_op {op : Operator} {a b : Expr} {g : PyData → PyData → Option S} {f1 f2 : EF} (hop : DOp X (binaryOp op) g) (ha : DE X a f1) (hb : DE X b f2) : DE X (.BinOp a op b pos) (opF g f1 f2) := by
  obtain ⟨r, ho, hs⟩ := hop
  obtain ⟨ta, pa, sa⟩ := ha
  obtain ⟨tb, pb, sb⟩ := hb
  exact ⟨tOp r ta tb, pe_op ho pa pb, fun G ρ σ H s ρ' Q R e q => op_run (f := binaryOp op) hs sa sb R e q⟩
theorem de_cmp {op : CmpOp} {a b : Expr} {g : PyData → PyData → Option S} {f1 f2 : EF} (hop : DOp X (compareOp op) g) (ha : DE X a f1) (hb : DE X b f2) (hm : behindInMarks op b = false) : DE X (.Compare a [op] [b] pos) (opF g f1 f2) := by
  obtain ⟨r, ho, hs⟩ := hop
  obtain ⟨ta, pa, sa⟩ := ha
  obtain ⟨tb, pb, sb⟩ := hb
  exact ⟨tOp r ta tb, pe_cmpR ho pa pb hm, fun G ρ σ H s ρ' Q R e q => op_run (f := compareOp op) hs sa sb R e q⟩
/-- a value that is a bool, as a test -/
def boolS : S → Option Bool
  | .fz (.bool b) => some b
  | _ => none
def tstF (f : EF) : TF := fun ρ => (f ρ).bind fun p => (boolS p.1).map fun b => (b, p.2)
theorem boolS_ok {K : PySem.W.Frag} {G H H' : Hp} {ρ : PSt} {σ : L2.St} {s : S} {v : V} {b : Bool} (h : ResR K G ρ σ H H' s v) (e : boolS s = some b) : v = .bl b := by
  cases s with
  | fz d =>
    cases d with
    | bool b' =>
      cases e
      cases (show Dq K G v (.bool b) from h)
      rfl
    | _ => cases e
  | _ => cases e
theorem dt_cmp {op : CmpOp} {a b : Expr} {g : PyData → PyData → Option S} {f1 f2 : EF} (hop : DOp X (compareOp op) g) (ha : DE X a f1) (hb : DE X b f2) (hm : behindInMarks op b = false) : DT X (.Compare a [op] [b] pos) (tstF (opF g f1 f2)) := by
  obtain ⟨r, ho, hs⟩ := hop
  obtain ⟨ta, pa, sa⟩ := ha
  obtain ⟨tb, pb, sb⟩ := hb
  refine ⟨_, pt_cmpR ho pa pb hm, fun G ρ σ H c ρ' Q R e q => ?_⟩
  obtain ⟨⟨s1, ρ1⟩, e1, e⟩ := of_bind e
  obtain ⟨c', e2, e⟩ := of_map e
  cases e
  exact op_run (f := compareOp op) hs sa sb R e1 fun v G' H' E => ⟨c, boolS_ok E.res e2, q G' H' E.rl E.st⟩
theorem dt_val {e : Expr} {f : EF} (h : DE X e f) (he : ∀ whole, isTrue e X.env whole = (do let v ← whole; standAt e.pos; holding [v] (truthy v)) := by intro _; rfl) : DT X e (tstF f) := by
  obtain ⟨t, pt, st⟩ := h
  refine ⟨tB t, pt_val pt he, fun G ρ σ H c ρ' Q R e q => ?_⟩
  obtain ⟨⟨s1, ρ1⟩, e1, e⟩ := of_bind e
  obtain ⟨c', e2, e⟩ := of_map e
  cases e
  exact st G ρ σ H s1 ρ1 _ R e1 fun v G' H' E => ⟨c, boolS_ok E.res e2, q G' H' E.rl E.st⟩

/-! ### and, or, not, if -/
def andF (f g : TF) : TF := fun ρ => (f ρ).bind fun p => if p.1 then g p.2 else some (false, p.2)
def orF (f g : TF) : TF := fun ρ => (f ρ).bind fun p => if p.1 then some (true, p.2) else g p.2
def notF (f : TF) : TF := fun ρ => (f ρ).map fun p => (!p.1, p.2)
theorem dw_and1 {a : Expr} {f : TF} (h : DT X a f) : DW X (.BoolOp .And [a] pos) f := by
  obtain ⟨t, p, s⟩ := h
  exact ⟨t, pw_and1 p, s⟩
theorem dw_or1 {a : Expr} {f : TF} (h : DT X a f) : DW X (.BoolOp .Or [a] pos) f := by
  obtain ⟨t, p, s⟩ := h
  exact ⟨t, pw_or1 p, s⟩
theorem dw_and {a b : Expr} {rest : List Expr} {f g : TF} (ha : DT X a f) (hb : DW X (.BoolOp .And (b :: rest) pos) g) : DW X (.BoolOp .And (a :: b :: rest) pos) (andF f g) := by
  obtain ⟨ta, pa, sa⟩ := ha
  obtain ⟨tb, pb, sb⟩ := hb
  refine ⟨_, pw_and pa pb, fun G ρ σ H c ρ' Q R e q => ?_⟩
  obtain ⟨⟨c1, ρ1⟩, e1, e⟩ := of_bind e
  refine sa G ρ σ H c1 ρ1 _ R e1 fun G1 H1 R1 p1 => ?_
  cases c1 with
  | true => exact sb G1 ρ1 σ H1 c ρ' Q R1 e fun G2 H2 R2 p2 => q G2 H2 R2 (p1.trans p2)
  | false => cases e; exact q G1 H1 R1 p1
theorem dw_or {a b : Expr} {rest : List Expr} {f g : TF} (ha : DT X a f) (hb : DW X (.BoolOp .Or (b :: rest) pos) g) : DW X (.BoolOp .Or (a :: b :: rest) pos) (orF f g) := by
  obtain ⟨ta, pa, sa⟩ := ha
  obtain ⟨tb, pb, sb⟩ := hb
  refine ⟨_, pw_or pa pb, fun G ρ σ H c ρ' Q R e q => ?_⟩
  obtain ⟨⟨c1, ρ1⟩, e1, e⟩ := of_bind e
  refine sa G ρ σ H c1 ρ1 _ R e1 fun G1 H1 R1 p1 => ?_
  cases c1 with
  | false => exact sb G1 ρ1 σ H1 c ρ' Q R1 e fun G2 H2 R2 p2 => q G2 H2 R2 (p1.trans p2)
  | true => cases e; exact q G1 H1 R1 p1
theorem DW.dt {e : Expr} {f : TF} (h : DW X e f) : DT X e f := by
  obtain ⟨t, p, s⟩ := h
  exact ⟨t, p.pt, s⟩
theorem dt_not {a : Expr} {f : TF} (h : DT X a f) : DT X (.UnaryOp .Not a pos) (notF f) := by
  obtain ⟨t, p, s⟩ := h
  refine ⟨_, pt_not p, fun G ρ σ H c ρ' Q R e q => ?_⟩
  obtain ⟨⟨c1, ρ1⟩, e1, e⟩ := of_map e
  cases e
  exact s G ρ σ H c1 ρ1 _ R e1 fun G1 H1 R1 p1 => q G1 H1 R1 p1
/-- as values -/
def boolF (f : TF) : EF := fun ρ => (f ρ).map fun p => (.fz (.bool p.1), p.2)
theorem de_one {op : BoolOp} {a : Expr} {f : EF} (h : DE X a f) : DE X (.BoolOp op [a] pos) f := by
  obtain ⟨t, p, s⟩ := h
  exact ⟨t, pe_one p, s⟩
def andVF (f g : EF) : EF := fun ρ => (f ρ).bind fun p => (boolS p.1).bind fun b => if b then g p.2 else some (.fz (.bool false), p.2)
def orVF (f g : EF) : EF := fun ρ => (f ρ).bind fun p => (boolS p.1).bind fun b => if b then some (.fz (.bool true), p.2) else g p.2
def notVF (f : EF) : EF := fun ρ => (f ρ).bind fun p => (boolS p.1).map fun b => (.fz (.bool (!b)), p.2)
theorem EvR.trans {K : PySem.W.Frag} {G H G1 H1 G2 H2 : Hp} {ρ ρ1 ρ2 : PSt} {σ : L2.St} {s : S} {v : V} (p : Stp G ρ σ H G1 ρ1 σ H1) (E : EvR K G1 ρ1 σ H1 s ρ2 v G2 H2) : EvR K G ρ σ H s ρ2 v G2 H2 := ⟨E.rl, p.trans E.st, E.res.back fun _ n => p.none_back n⟩
theorem de_and {a b : Expr} {rest : List Expr} {f g : EF} (ha : DE X a f) (hb : DE X (.BoolOp .And (b :: rest) pos) g) : DE X (.BoolOp .And (a :: b :: rest) pos) (andVF f g) := by
  obtain ⟨ta, pa, sa⟩ := ha
  obtain ⟨tb, pb, sb⟩ := hb
  refine ⟨_, pe_and pa pb, fun G ρ σ H s ρ' Q R e q => ?_⟩
  obtain ⟨⟨s1, ρ1⟩, e1, e⟩ := of_bind e
  obtain ⟨c, e2, e⟩ := of_bind e
  refine sa G ρ σ H s1 ρ1 _ R e1 fun v G1 H1 E1 => ⟨c, boolS_ok E1.res e2, ?_⟩
  cases c with
  | true => exact sb G1 ρ1 σ H1 s ρ' Q E1.rl e fun u G2 H2 E2 => q u G2 H2 (E2.trans E1.st)
  | false => cases e; exact q _ G1 H1 ⟨E1.rl, E1.st, .bl false⟩
theorem de_or {a b : Expr} {rest : List Expr} {f g : EF} (ha : DE X a f) (hb : DE X (.BoolOp .Or (b :: rest) pos) g) : DE X (.BoolOp .Or (a :: b :: rest) pos) (orVF f g) := by
  obtain ⟨ta, pa, sa⟩ := ha
  obtain ⟨tb, pb, sb⟩ := hb
  refine ⟨_, pe_or pa pb, fun G ρ σ H s ρ' Q R e q => ?_⟩
  obtain ⟨⟨s1, ρ1⟩, e1, e⟩ := of_bind e
  obtain ⟨c, e2, e⟩ := of_bind e
  refine sa G ρ σ H s1 ρ1 _ R e1 fun v G1 H1 E1 => ⟨c, boolS_ok E1.res e2, ?_⟩
  cases c with
  | false => exact sb G1 ρ1 σ H1 s ρ' Q E1.rl e fun u G2 H2 E2 => q u G2 H2 (E2.trans E1.st)
  | true => cases e; exact q _ G1 H1 ⟨E1.rl, E1.st, .bl true⟩
theorem de_not {a : Expr} {f : EF} (h : DE X a f) : DE X (.UnaryOp .Not a pos) (notVF f) := by
  obtain ⟨t, p, s⟩ := h
  refine ⟨_, pe_not p, fun G ρ σ H s0 ρ' Q R e q => ?_⟩
  obtain ⟨⟨s1, ρ1⟩, e1, e⟩ := of_bind e
  obtain ⟨c, e2, e⟩ := of_map e
  cases e
  exact s G ρ σ H s1 ρ1 _ R e1 fun v G1 H1 E1 => ⟨c, boolS_ok E1.res e2, q _ G1 H1 ⟨E1.rl, E1.st, .bl (!c)⟩⟩
def ifF (c : TF) (f g : EF) : EF := fun ρ => (c ρ).bind fun p => if p.1 then f p.2 else g p.2
theorem de_if {c a b : Expr} {fc : TF} {f g : EF} (hc : DT X c fc) (ha : DE X a f) (hb : DE X b g) : DE X (.IfExp c a b pos) (ifF fc f g) := by
  obtain ⟨tc, pc, sc⟩ := hc
  obtain ⟨ta, pa, sa⟩ := ha
  obtain ⟨tb, pb, sb⟩ := hb
  refine ⟨_, pe_ifExp pc pa pb, fun G ρ σ H s ρ' Q R e q => ?_⟩
  obtain ⟨⟨c1, ρ1⟩, e1, e⟩ := of_bind e
  refine sc G ρ σ H c1 ρ1 _ R e1 fun G1 H1 R1 p1 => ?_
  cases c1 with
  | true => exact sa G1 ρ1 σ H1 s ρ' Q R1 e fun u G2 H2 E2 => q u G2 H2 (E2.trans p1)
  | false => exact sb G1 ρ1 σ H1 s ρ' Q R1 e fun u G2 H2 E2 => q u G2 H2 (E2.trans p1)
/-- a op1 b op2 c -/
def chF (g g' : PyData → PyData → Option S) (f1 f2 f3 : EF) : EF := fun ρ =>
  (f1 ρ).bind fun p => (f2 p.2).bind fun q => (p.1.peek q.2).bind fun d => (q.1.peek q.2).bind fun e => (g d e).bind fun s => (boolS s).bind fun b =>
    if b then (f3 q.2).bind fun r => (q.1.peek r.2).bind fun d => (r.1.peek r.2).bind fun e => (g' d e).map fun s => (s, r.2) else some (.fz (.bool false), q.2)
theorem ch_run {f f' : Value → Value → Sem Value} {g g' : PyData → PyData → Option S} {f1 f2 f3 : EF} {r r' : R2} {ta tb tc : TE}
    (hs : ∀ (G H : Hp) (x y : V) (d e : PyData) (s : S) (Q : VK), Sub G H → PkR X.K G H x d → PkR X.K G H y e → g d e = some s → (∀ v G' H', NewR X.K G H s v G' H' → Q v H') → r x y H Q)
    (hs' : ∀ (G H : Hp) (x y : V) (d e : PyData) (s : S) (Q : VK), Sub G H → PkR X.K G H x d → PkR X.K G H y e → g' d e = some s → (∀ v G' H', NewR X.K G H s v G' H' → Q v H') → r' x y H Q)
    (sa : ∀ (G : Hp) (ρ : PSt) (σ : L2.St) (H : Hp) (s : S) (ρ' : PSt) (Q : VK), Rl X.K G ρ σ H → f1 ρ = some (s, ρ') → (∀ v G' H', EvR X.K G ρ σ H s ρ' v G' H' → Q v H') → ta σ H Q)
    (sb : ∀ (G : Hp) (ρ : PSt) (σ : L2.St) (H : Hp) (s : S) (ρ' : PSt) (Q : VK), Rl X.K G ρ σ H → f2 ρ = some (s, ρ') → (∀ v G' H', EvR X.K G ρ σ H s ρ' v G' H' → Q v H') → tb σ H Q)
    (sc : ∀ (G : Hp) (ρ : PSt) (σ : L2.St) (H : Hp) (s : S) (ρ' : PSt) (Q : VK), Rl X.K G ρ σ H → f3 ρ = some (s, ρ') → (∀ v G' H', EvR X.K G ρ σ H s ρ' v G' H' → Q v H') → tc σ H Q)
    {G : Hp} {ρ : PSt} {σ : L2.St} {H : Hp} {s : S} {ρ' : PSt} {Q : VK} (R : Rl X.K G ρ σ H) (e : chF g g' f1 f2 f3 ρ = some (s, ρ')) (q : ∀ v G' H', EvR X.K G ρ σ H s ρ' v G' H' → Q v H') : tChain r r' ta tb tc σ H Q := by
  obtain ⟨⟨s1, ρ1⟩, e1, e⟩ := of_bind e
  obtain ⟨⟨s2, ρ2⟩, e2, e⟩ := of_bind e
  obtain ⟨d1, e3, e⟩ := of_bind e
  obtain ⟨d2, e4, e⟩ := of_bind e
  obtain ⟨s', e5, e⟩ := of_bind e
  obtain ⟨c, e6, e⟩ := of_bind e
  refine sa G ρ σ H s1 ρ1 _ R e1 fun v G1 H1 E1 => ?_
  refine sb G1 ρ1 σ H1 s2 ρ2 _ E1.rl e2 fun u G2 H2 E2 => ?_
  refine hs G2 H2 v u d1 d2 s' _ E2.rl.sub (peek_ok E2.rl (E1.res.later E2.st) e3) (peek_ok E2.rl E2.res e4) e5 fun w G3 H3 N => ?_
  have E3 := ev_new E2.rl (E1.st.trans E2.st) N
  have p3 : Stp G2 ρ2 σ H2 G3 ρ2 σ H3 := Stp.new N.sg N.sh N.nw
  refine ⟨c, boolS_ok E3.res e6, ?_⟩
  cases c with
  | false => cases e; exact q _ G3 H3 ⟨E3.rl, E3.st, .bl false⟩
  | true =>
    obtain ⟨⟨s4, ρ4⟩, e7, e⟩ := of_bind e
    obtain ⟨d4, e8, e⟩ := of_bind e
    obtain ⟨d5, e9, e⟩ := of_bind e
    obtain ⟨s5, e10, e⟩ := of_map e
    cases e
    refine sc G3 ρ2 σ H3 s4 ρ4 _ E3.rl e7 fun z G4 H4 E4 => ?_
    exact hs' G4 H4 u z d4 d5 s _ E4.rl.sub (peek_ok E4.rl ((E2.res.later p3).later E4.st) e8) (peek_ok E4.rl E4.res e9) e10 fun w G5 H5 N5 => q w G5 H5 (ev_new E4.rl (E3.st.trans E4.st) N5)
theorem de_chain {op op' : CmpOp} {a b c : Expr} {g g' : PyData → PyData → Option S} {f1 f2 f3 : EF} (ho : DOp X (compareOp op) g) (ho' : DOp X (compareOp op') g') (ha : DE X a f1) (hb : DE X b f2) (hc : DE X c f3)
    (hm : lastMarks [op, op'] [b, c] = false := by with_unfolding_all rfl) : DE X (.Compare a [op, op'] [b, c] pos) (chF g g' f1 f2 f3) := by
  obtain ⟨r, o1, hs⟩ := ho
  obtain ⟨r', o2, hs'⟩ := ho'
  obtain ⟨ta, pa, sa⟩ := ha
  obtain ⟨tb, pb, sb⟩ := hb
  obtain ⟨tc, pc, sc⟩ := hc
  exact ⟨_, pe_chain o1 o2 pa pb pc hm, fun G ρ σ H s ρ' Q R e q => ch_run (f := compareOp op) (f' := compareOp op') hs hs' sa sb sc R e q⟩
theorem dt_chain {op op' : CmpOp} {a b c : Expr} {g g' : PyData → PyData → Option S} {f1 f2 f3 : EF} (ho : DOp X (compareOp op) g) (ho' : DOp X (compareOp op') g') (ha : DE X a f1) (hb : DE X b f2) (hc : DE X c f3)
    (hm : lastMarks [op, op'] [b, c] = false := by with_unfolding_all rfl) : DT X (.Compare a [op, op'] [b, c] pos) (tstF (chF g g' f1 f2 f3)) := by
  obtain ⟨r, o1, hs⟩ := ho
  obtain ⟨r', o2, hs'⟩ := ho'
  obtain ⟨ta, pa, sa⟩ := ha
  obtain ⟨tb, pb, sb⟩ := hb
  obtain ⟨tc, pc, sc⟩ := hc
  refine ⟨_, pt_chain o1 o2 pa pb pc hm, fun G ρ σ H c ρ' Q R e q => ?_⟩
  obtain ⟨⟨s1, ρ1⟩, e1, e⟩ := of_bind e
  obtain ⟨c', e2, e⟩ := of_map e
  cases e
  exact ch_run (f := compareOp op) (f' := compareOp op') hs hs' sa sb sc R e1 fun v G' H' E => ⟨c, boolS_ok E.res e2, q G' H' E.rl E.st⟩

/-! ### subscripts, slices -/
def DIx (X : Cx) (g : PyData → PyData → Option S) : Prop :=
  ∃ r, IxR X r ∧ ∀ (G H : Hp) (x y : V) (d e : PyData) (s : S) (Q : VK), Sub G H → PkR X.K G H x d → PkR X.K G H y e → g d e = some s → (∀ v G' H', NewR X.K G H s v G' H' → Q v H') → r x y H Q
theorem de_ix {a b : Expr} {g : PyData → PyData → Option S} {f1 f2 : EF} (hop : DIx X g) (ha : DE X a f1) (hb : DE X b f2) (hs : PlainIx b) : DE X (.Subscript a b pos) (opF g f1 f2) := by
  obtain ⟨r, ho, hs'⟩ := hop
  obtain ⟨ta, pa, sa⟩ := ha
  obtain ⟨tb, pb, sb⟩ := hb
  exact ⟨tOp r ta tb, pe_ix ho pa pb hs, fun G ρ σ H s ρ' Q R e q => op_run (f := fun _ _ => pure .none) hs' sa sb R e q⟩
end
end DL

/-! D3: operators, subscripts, slices, built-ins on data. -/
namespace DL
open L2 PySem PySem.Spec PyProof.Rows

/-! ### operators -/
section
variable {X : Cx} {pos : Pos}
def gI (C : Int → Int → Bool) (h : Int → Int → Int) : PyData → PyData → Option S
  | .int i, .int j => if C i j then some (.fz (.int (h i j))) else none
  | _, _ => none
theorem dop_I {f : Value → Value → Sem Value} {C : Int → Int → Prop} {Cb : Int → Int → Bool} {h : Int → Int → Int} (o : OpR X f (rI C fun i j => .int (h i j))) (hc : ∀ i j, Cb i j = true → C i j) : DOp X f (gI Cb h) := by
  refine ⟨_, o, fun G H x y d e s Q sg px py eg q => ?_⟩
  cases d with
  | int i =>
    cases e with
    | int j =>
      by_cases c : Cb i j = true
      · rw [show gI Cb h (.int i) (.int j) = _ from if_pos c] at eg
        cases eg
        rw [px.int, py.int]
        exact ⟨i, j, rfl, rfl, hc i j c, q _ G H (.same sg (.int _))⟩
      · rw [show gI Cb h (.int i) (.int j) = _ from if_neg c] at eg
        cases eg
    | _ => cases eg
  | _ => cases eg
def gI0 (h : Int → Int → Int) : PyData → PyData → Option S
  | .int i, .int j => some (.fz (.int (h i j)))
  | _, _ => none
theorem dop_I0 {f : Value → Value → Sem Value} {h : Int → Int → Int} (o : OpR X f (rI0 fun i j => .int (h i j))) : DOp X f (gI0 h) := by
  refine ⟨_, o, fun G H x y d e s Q sg px py eg q => ?_⟩
  cases d with
  | int i =>
    cases e with
    | int j =>
      cases eg
      rw [px.int, py.int]
      exact ⟨i, j, rfl, rfl, q _ G H (.same sg (.int _))⟩
    | _ => cases eg
  | _ => cases eg
def gB0 (h : Int → Int → Bool) : PyData → PyData → Option S
  | .int i, .int j => some (.fz (.bool (h i j)))
  | _, _ => none
theorem dop_B0 {f : Value → Value → Sem Value} {h : Int → Int → Bool} (o : OpR X f (rI0 fun i j => .bl (h i j))) : DOp X f (gB0 h) := by
  refine ⟨_, o, fun G H x y d e s Q sg px py eg q => ?_⟩
  cases d with
  | int i =>
    cases e with
    | int j =>
      cases eg
      rw [px.int, py.int]
      exact ⟨i, j, rfl, rfl, q _ G H (.same sg (.bl _))⟩
    | _ => cases eg
  | _ => cases eg
def gSB (h : Str → Str → Bool) : PyData → PyData → Option S
  | .str i, .str j => some (.fz (.bool (h i j)))
  | _, _ => none
theorem dop_SB {f : Value → Value → Sem Value} {h : Str → Str → Bool} (o : OpR X f (fun x y H Q => ∃ i j, x = .str i ∧ y = .str j ∧ Q (.bl (h i j)) H)) : DOp X f (gSB h) := by
  refine ⟨_, o, fun G H x y d e s Q sg px py eg q => ?_⟩
  cases d with
  | str i =>
    cases e with
    | str j =>
      cases eg
      rw [px.str, py.str]
      exact ⟨i, j, rfl, rfl, q _ G H (.same sg (.bl _))⟩
    | _ => cases eg
  | _ => cases eg
/-- texts -/
def gAddS : PyData → PyData → Option S
  | .str i, .str j => if okN (i.length + j.length) then some (.fz (.str (i ++ j))) else none
  | _, _ => none
theorem dop_addS : DOp X (binaryOp .Add) gAddS := by
  refine ⟨_, op_add_str, fun G H x y d e s Q sg px py eg q => ?_⟩
  cases d with
  | str i =>
    cases e with
    | str j =>
      by_cases c : okN (i.length + j.length) = true
      · rw [show gAddS (.str i) (.str j) = _ from if_pos c] at eg
        cases eg
        rw [px.str, py.str]
        exact ⟨i, j, rfl, rfl, okN_le c, q _ G H (.same sg (.str _))⟩
      · rw [show gAddS (.str i) (.str j) = _ from if_neg c] at eg
        cases eg
    | _ => cases eg
  | _ => cases eg
/-- lists -/
def gCatL : PyData → PyData → Option S
  | .list i, .list j => if okN (i.length + j.length) then some (.ol (i ++ j)) else none
  | _, _ => none
theorem dop_catL : DOp X (binaryOp .Add) gCatL := by
  refine ⟨_, op_cat, fun G H x y d e s Q sg px py eg q => ?_⟩
  cases d with
  | list i =>
    cases e with
    | list j =>
      by_cases c : okN (i.length + j.length) = true
      · rw [show gCatL (.list i) (.list j) = _ from if_pos c] at eg
        cases eg
        obtain ⟨a, xs, ea, ha, da⟩ := px.list sg
        obtain ⟨b, ys, eb, hb, db⟩ := py.list sg
        subst ea eb
        exact ⟨a, b, xs, ys, rfl, rfl, ha, hb, by rw [da.len, db.len]; exact okN_le c, fun p n => q _ _ _ (.lst sg n (da.app db))⟩
      · rw [show gCatL (.list i) (.list j) = _ from if_neg c] at eg
        cases eg
    | _ => cases eg
  | _ => cases eg
/-- tuples -/
def gCatT : PyData → PyData → Option S
  | .tuple i, .tuple j => if okN (i.length + j.length) then some (.fz (.tuple (i ++ j))) else none
  | _, _ => none
theorem dop_catT : DOp X (binaryOp .Add) gCatT := by
  refine ⟨_, op_catA, fun G H x y d e s Q sg px py eg q => ?_⟩
  cases d with
  | tuple i =>
    cases e with
    | tuple j =>
      by_cases c : okN (i.length + j.length) = true
      · rw [show gCatT (.tuple i) (.tuple j) = _ from if_pos c] at eg
        cases eg
        obtain ⟨a, xs, ea, ha, da, ga⟩ := px.tup sg
        obtain ⟨b, ys, eb, hb, db, gb⟩ := py.tup sg
        subst ea eb
        refine ⟨a, b, xs, ys, rfl, rfl, ha, hb, by rw [da.len, db.len]; exact okN_le c, fun e1 => ?_, fun _ e2 => ?_, fun _ _ p n => q _ _ _ (.tup sg n (da.app db))⟩
        · subst e1
          cases da
          exact q _ G H (.same sg (.tup gb db))
        · subst e2
          cases db
          rw [List.append_nil] at q
          exact q _ G H (.same sg (.tup ga da))
      · rw [show gCatT (.tuple i) (.tuple j) = _ from if_neg c] at eg
        cases eg
    | _ => cases eg
  | _ => cases eg
/-- list * int, tuple * int -/
def gRepL : PyData → PyData → Option S
  | .list i, .int j => if decide (0 ≤ j) && decide (j < 1000) && okN (i.length * j.toNat) then some (.ol (List.replicate j.toNat i).flatten) else none
  | _, _ => none
theorem DqAll.rep {K : PySem.W.Frag} {A : Hp} {vs : List V} {ds : List PyData} (h : DqAll K A vs ds) : ∀ n : Nat, DqAll K A (List.replicate n vs).flatten (List.replicate n ds).flatten
  | 0 => .nil
  | n + 1 => by
    rw [List.replicate_succ, List.replicate_succ, List.flatten_cons, List.flatten_cons]
    exact h.app (DqAll.rep h n)
theorem dop_repL : DOp X (binaryOp .Mult) gRepL := by
  refine ⟨_, op_rep, fun G H x y d e s Q sg px py eg q => ?_⟩
  cases d with
  | list i =>
    cases e with
    | int j =>
      by_cases c : (decide (0 ≤ j) && decide (j < 1000) && okN (i.length * j.toNat)) = true
      · rw [show gRepL (.list i) (.int j) = _ from if_pos c] at eg
        cases eg
        rw [Bool.and_eq_true, Bool.and_eq_true] at c
        obtain ⟨⟨c1, c2⟩, c3⟩ := c
        have c1 := of_decide_eq_true c1
        have c2 := of_decide_eq_true c2
        obtain ⟨a, xs, ea, ha, da⟩ := px.list sg
        subst ea
        rw [py.int]
        exact ⟨a, j, xs, rfl, rfl, ha, by omega, by omega, by rw [da.len]; exact okN_le c3, fun p n => q _ _ _ (.lst sg n (DqAll.rep da _))⟩
      · rw [show gRepL (.list i) (.int j) = _ from if_neg c] at eg
        cases eg
    | _ => cases eg
  | _ => cases eg
def gRepT : PyData → PyData → Option S
  | .tuple i, .int j => if decide (2 ≤ j) && decide (j ≤ 1000) && decide (i.length ≤ 1000) && !i.isEmpty then some (.fz (.tuple (List.replicate j.toNat i).flatten)) else none
  | _, _ => none
theorem dop_repT : DOp X (binaryOp .Mult) gRepT := by
  refine ⟨_, op_repT, fun G H x y d e s Q sg px py eg q => ?_⟩
  cases d with
  | tuple i =>
    cases e with
    | int j =>
      by_cases c : (decide (2 ≤ j) && decide (j ≤ 1000) && decide (i.length ≤ 1000) && !i.isEmpty) = true
      · rw [show gRepT (.tuple i) (.int j) = _ from if_pos c] at eg
        cases eg
        rw [Bool.and_eq_true, Bool.and_eq_true, Bool.and_eq_true] at c
        obtain ⟨⟨⟨c1, c2⟩, c3⟩, c4⟩ := c
        have c1 := of_decide_eq_true c1
        have c2 := of_decide_eq_true c2
        have c3 := of_decide_eq_true c3
        obtain ⟨a, xs, ea, ha, da, ga⟩ := px.tup sg
        subst ea
        rw [py.int]
        refine ⟨a, j, xs, rfl, rfl, ha, fun z => ?_, c1, c2, by rw [da.len]; exact c3, fun p n => q _ _ _ (.tup sg n (DqAll.rep da _))⟩
        subst z
        cases da
        cases c4
      · rw [show gRepT (.tuple i) (.int j) = _ from if_neg c] at eg
        cases eg
    | _ => cases eg
  | _ => cases eg

/-- bools among whole numbers -/
def bI (b : Bool) : Int := if b = true then (1 : Int) else 0
def gBI (h : Int → Int → Int) : PyData → PyData → Option S
  | .bool k, .int j => some (.fz (.int (h (bI k) j)))
  | .int i, .bool k => some (.fz (.int (h i (bI k))))
  | _, _ => none
theorem dop_BI {f : Value → Value → Sem Value} {h : Int → Int → Int}
    (r1 : ∀ {s : Shared} {A : Around} {E : Value → Shared → Prop} {Q : Value → Shared → Prop} {a : Bool} {b : Int} {u : Tok}, Q (.int (h (bI a) b) s.toks) { s with toks := s.toks + 1 } → wpAny (model X.prog X.w) A (f (.bool a) (.int b u)) Q E s)
    (r2 : ∀ {s : Shared} {A : Around} {E : Value → Shared → Prop} {Q : Value → Shared → Prop} {a : Int} {t : Tok} {b : Bool}, Q (.int (h a (bI b)) s.toks) { s with toks := s.toks + 1 } → wpAny (model X.prog X.w) A (f (.int a t) (.bool b)) Q E s) : DOp X f (gBI h) := by
  refine ⟨fun x y H Q => (∃ k j, x = .bl k ∧ y = .int j ∧ Q (.int (h (bI k) j)) H) ∨ ∃ i k, x = .int i ∧ y = .bl k ∧ Q (.int (h i (bI k))) H, ?_, fun G H x y d e s Q sg px py eg q => ?_⟩
  · intro pins s σ H x y v u Q I rx ry hh
    rcases hh with ⟨k, j, rfl, rfl, q⟩ | ⟨i, k, rfl, rfl, q⟩
    · cases rx
      obtain ⟨t, rfl⟩ := ry
      exact r1 ⟨.int (h (bI k) j), H, I.tok _, ⟨_, rfl⟩, q⟩
    · obtain ⟨t, rfl⟩ := rx
      cases ry
      exact r2 ⟨.int (h i (bI k)), H, I.tok _, ⟨_, rfl⟩, q⟩
  · match d, e with
    | .bool k, .int j =>
      cases eg
      exact .inl ⟨k, j, px.bool, py.int, q _ G H (.same sg (.int _))⟩
    | .int i, .bool k =>
      cases eg
      exact .inr ⟨i, k, px.int, py.bool, q _ G H (.same sg (.int _))⟩
def gAdd := orG (gI0 (· + ·)) (orG gCatL (orG gCatT (orG gAddS (gBI (· + ·)))))
theorem dop_add : DOp X (binaryOp .Add) gAdd := (dop_I0 op_add).or (dop_catL.or (dop_catT.or (dop_addS.or (dop_BI (fun q => PySem.IntBool.add_bool_int q) (fun q => add_int_bool q)))))
def gSub := orG (gI0 (· - ·)) (gBI (· - ·))
theorem dop_sub : DOp X (binaryOp .Sub) gSub := (dop_I0 op_sub).or (dop_BI (fun q => PySem.IntBool.sub_bool_int q) (fun q => PySem.IntBool.sub_int_bool q))
def cMul (i j : Int) : Bool := decide (i.natAbs.log2 + j.natAbs.log2 < 1000000)
def gMul := orG (gI cMul (· * ·)) (orG gRepL gRepT)
theorem dop_mul : DOp X (binaryOp .Mult) gMul := (dop_I op_mulW fun i j h => show i.natAbs.log2 + j.natAbs.log2 < 1000000 from of_decide_eq_true h).or (dop_repL.or dop_repT)
def cDiv (_ j : Int) : Bool := decide (0 < j) && decide (j.natAbs.log2 < 9000)
def cDivN (_ j : Int) : Bool := decide (j ≠ 0) && decide (j.natAbs < 1073741824)
def gDiv := orG (gI cDiv (· / ·)) (gI cDivN Int.fdiv)
theorem dop_div : DOp X (binaryOp .FloorDiv) gDiv := (dop_I op_fdivW fun _ _ h => by
  rw [cDiv, Bool.and_eq_true] at h
  exact ⟨of_decide_eq_true h.1, of_decide_eq_true h.2⟩).or (dop_I op_fdivN fun _ _ h => by
  rw [cDivN, Bool.and_eq_true] at h
  exact ⟨of_decide_eq_true h.1, of_decide_eq_true h.2⟩)
def cMod (_ j : Int) : Bool := decide (0 < j)
def gMod := gI cMod (· % ·)
theorem dop_mod : DOp X (binaryOp .Mod) gMod := dop_I op_mod fun _ _ h => of_decide_eq_true h
def cPow (i j : Int) : Bool := decide (0 ≤ j) && decide (j ≤ 1000000) && decide (i.natAbs < 2 ^ 64)
def gPow := gI cPow fun i j => i ^ j.toNat
theorem dop_pow : DOp X (binaryOp .Pow) gPow := dop_I op_pow fun _ _ h => by
  rw [cPow, Bool.and_eq_true, Bool.and_eq_true] at h
  exact ⟨of_decide_eq_true h.1.1, of_decide_eq_true h.1.2, of_decide_eq_true h.2⟩
def strLt (i j : Str) : Bool := decide (i.cps.toList < j.cps.toList)
def gLt := orG (gB0 fun i j => decide (i < j)) (gSB strLt)
theorem dop_lt : DOp X (compareOp .Lt) gLt := (dop_B0 op_lt).or (dop_SB op_lt_str)
def gLe := orG (gB0 fun i j => decide (i ≤ j)) (gSB fun i j => !strLt j i)
theorem dop_le : DOp X (compareOp .LtE) gLe := (dop_B0 op_le).or (dop_SB op_le_str)
def gGt := orG (gB0 fun i j => decide (j < i)) (gSB fun i j => strLt j i)
theorem dop_gt : DOp X (compareOp .Gt) gGt := (dop_B0 op_gt).or (dop_SB op_gt_str)
def gGe := orG (gB0 fun i j => decide (j ≤ i)) (gSB fun i j => !strLt i j)
theorem dop_ge : DOp X (compareOp .GtE) gGe := (dop_B0 op_ge).or (dop_SB op_ge_str)
def gEq0 (d e : PyData) : Option S := if SeqAt.shaped d && SeqAt.shaped e then some (.fz (.bool (PyData.eqv d e))) else none
def gNe0 (d e : PyData) : Option S := if SeqAt.shaped d && SeqAt.shaped e then some (.fz (.bool (!PyData.eqv d e))) else none
theorem dop_eq0 (hu : X.A.units + 64 < cLine) : DOp X (compareOp .Eq) gEq0 := by
  refine ⟨_, op_eqD hu, fun G H x y d e s Q sg px py eg q => ?_⟩
  by_cases c : (SeqAt.shaped d && SeqAt.shaped e) = true
  · rw [gEq0, if_pos c] at eg
    cases eg
    rw [Bool.and_eq_true] at c
    exact ⟨d, e, Dq.dp d (px.dq sg), Dq.dp e (py.dq sg), c.1, c.2, q _ G H (.same sg (.bl _))⟩
  · rw [gEq0, if_neg c] at eg; cases eg
theorem dop_ne0 (hu : X.A.units + 64 < cLine) : DOp X (compareOp .NotEq) gNe0 := by
  refine ⟨_, op_neD hu, fun G H x y d e s Q sg px py eg q => ?_⟩
  by_cases c : (SeqAt.shaped d && SeqAt.shaped e) = true
  · rw [gNe0, if_pos c] at eg
    cases eg
    rw [Bool.and_eq_true] at c
    exact ⟨d, e, Dq.dp d (px.dq sg), Dq.dp e (py.dq sg), c.1, c.2, q _ G H (.same sg (.bl _))⟩
  · rw [gNe0, if_neg c] at eg; cases eg
def gEqS : PyData → PyData → Option S
  | .str x, .str y => some (.fz (.bool (decide (x = y))))
  | _, _ => none
def gNeS : PyData → PyData → Option S
  | .str x, .str y => some (.fz (.bool (!decide (x = y))))
  | _, _ => none
theorem dec_strV {x y : Str} : decide (V.str x = V.str y) = decide (x = y) := decide_eq_decide.mpr ⟨fun h => by cases h; rfl, fun h => by rw [h]⟩
theorem dop_eqS : DOp X (compareOp .Eq) gEqS := by
  refine ⟨_, op_eq, fun G H x y d e s Q sg px py eg q => ?_⟩
  match d, e with
  | .str i, .str j =>
    cases eg
    rw [px.str, py.str]
    refine ⟨rfl, ?_⟩
    rw [dec_strV]
    exact q _ G H (.same sg (.bl _))
theorem dop_neS : DOp X (compareOp .NotEq) gNeS := by
  refine ⟨_, op_ne, fun G H x y d e s Q sg px py eg q => ?_⟩
  match d, e with
  | .str i, .str j =>
    cases eg
    rw [px.str, py.str]
    refine ⟨rfl, ?_⟩
    rw [dec_strV]
    exact q _ G H (.same sg (.bl _))
def gEq := orG gEqS gEq0
def gNe := orG gNeS gNe0
theorem dop_eq (hu : X.A.units + 64 < cLine) : DOp X (compareOp .Eq) gEq := dop_eqS.or (dop_eq0 hu)
theorem dop_ne (hu : X.A.units + 64 < cLine) : DOp X (compareOp .NotEq) gNe := dop_neS.or (dop_ne0 hu)
def isNone : PyData → Bool
  | .none => true
  | _ => false
def gIs (d e : PyData) : Option S := if isNone e then some (.fz (.bool (isNone d))) else none
def gIsNot (d e : PyData) : Option S := if isNone e then some (.fz (.bool (!isNone d))) else none
theorem pk_isNone {K : PySem.W.Frag} {G H : Hp} {v : V} {d : PyData} (h : PkR K G H v d) : decide (v = .non) = isNone d := by
  rcases h with h | ⟨a, xs, ds, e, e2, _, _⟩
  · cases h <;> rfl
  · subst e e2; rfl
theorem isNone_eq {d : PyData} (h : isNone d = true) : d = .none := by
  cases d <;> first | rfl | cases h
theorem dop_is : DOp X (compareOp .Is) gIs := by
  refine ⟨_, op_isN, fun G H x y d e s Q sg px py eg q => ?_⟩
  by_cases c : isNone e = true
  · rw [gIs, if_pos c] at eg
    cases eg
    obtain rfl := isNone_eq c
    refine ⟨py.none, ?_⟩
    rw [pk_isNone px]
    exact q _ G H (.same sg (.bl _))
  · rw [gIs, if_neg c] at eg; cases eg
theorem dop_isNot : DOp X (compareOp .IsNot) gIsNot := by
  refine ⟨_, op_notN, fun G H x y d e s Q sg px py eg q => ?_⟩
  by_cases c : isNone e = true
  · rw [gIsNot, if_pos c] at eg
    cases eg
    obtain rfl := isNone_eq c
    refine ⟨py.none, ?_⟩
    rw [pk_isNone px]
    exact q _ G H (.same sg (.bl _))
  · rw [gIsNot, if_neg c] at eg; cases eg
/-- -a -/
def negF (f : EF) : EF := fun ρ => (f ρ).bind fun p => match p.1 with
  | .fz (.int i) => some (.fz (.int (-i)), p.2)
  | _ => none
theorem de_neg {a : Expr} {f : EF} (h : DE X a f) : DE X (.UnaryOp .USub a pos) (negF f) := by
  obtain ⟨t, p, st⟩ := h
  refine ⟨_, pe_un un_neg p, fun G ρ σ H s ρ' Q R e q => ?_⟩
  obtain ⟨⟨s1, ρ1⟩, e1, e⟩ := of_bind e
  refine st G ρ σ H s1 ρ1 _ R e1 fun v G1 H1 E1 => ?_
  cases s1 with
  | fz d =>
    cases d with
    | int i =>
      cases e
      cases (show Dq X.K G1 v (.int i) from E1.res)
      exact ⟨i, rfl, q _ G1 H1 ⟨E1.rl, E1.st, .int (-i)⟩⟩
    | _ => cases e
  | _ => cases e

/-! ### subscripts -/
def gIx : PyData → PyData → Option S
  | .list ds, .int i => (atI ds i).map .fz
  | .tuple ds, .int i => (atI ds i).map .fz
  | .str z, .int i => if okN z.length then (atI z.cps.toList i).map fun c => .fz (.str ⟨#[c]⟩) else none
  | _, _ => none
theorem atI_data {K : PySem.W.Frag} {A : Hp} {vs : List V} {ds : List PyData} {i : Int} {d : PyData} (h : DqAll K A vs ds) (e : atI ds i = some d) : ∃ v, atI vs i = some v ∧ Dq K A v d := by
  obtain ⟨j, e1, e2⟩ := of_bind e
  obtain ⟨v, e3, r⟩ := h.get e2
  refine ⟨v, ?_, r⟩
  show (ixN vs.length i).bind _ = _
  rw [h.len, e1]
  exact e3
theorem dix : DIx X gIx := by
  refine ⟨_, ix_seq, fun G H x y d e s Q sg px py eg q => ?_⟩
  cases e with
  | int i =>
    cases d with
    | list ds =>
      obtain ⟨d, e1, e2⟩ := of_map eg
      subst e2
      obtain ⟨a, xs, ea, ha, da⟩ := px.list sg
      subst ea
      rw [py.int]
      obtain ⟨v, e3, r⟩ := atI_data da e1
      exact .inl ⟨a, xs, i, v, rfl, rfl, .of ha, e3, q _ G H (.same sg r)⟩
    | tuple ds =>
      obtain ⟨d, e1, e2⟩ := of_map eg
      subst e2
      obtain ⟨a, xs, ea, ha, da, _⟩ := px.tup sg
      subst ea
      rw [py.int]
      obtain ⟨v, e3, r⟩ := atI_data da e1
      exact .inr (.inl ⟨a, xs, i, v, rfl, rfl, ha, e3, q _ G H (.same sg r)⟩)
    | str z =>
      by_cases c : okN z.length = true
      · rw [show gIx (.str z) (.int i) = _ from if_pos c] at eg
        obtain ⟨k, e1, e2⟩ := of_map eg
        subst e2
        rw [px.str, py.int]
        exact .inr (.inr ⟨z, i, k, rfl, rfl, okN_le c, e1, q _ G H (.same sg (.str _))⟩)
      · rw [show gIx (.str z) (.int i) = _ from if_neg c] at eg
        cases eg
    | _ => cases eg
  | _ => cases d <;> cases eg

/-! ### slices -/
def cutD {α : Type} (xs : List α) (lo hi : Option Int) : List α := (xs.drop (HT.sIx xs.length 0 lo)).take (HT.sIx xs.length xs.length hi - HT.sIx xs.length 0 lo)
theorem cut_data {K : PySem.W.Frag} {A : Hp} {vs : List V} {ds : List PyData} (h : DqAll K A vs ds) (lo hi : Option Int) : DqAll K A (cutV vs lo hi) (cutD ds lo hi) := by
  unfold cutV cutD
  rw [h.len]
  exact (h.drop _).take _
abbrev PF := PSt → Option (Option Int × PSt)
def DP (X : Cx) (e : Option Expr) (f : PF) : Prop :=
  ∃ t, PO X e t ∧ ∀ (G : Hp) (ρ : PSt) (σ : L2.St) (H : Hp) (o : Option Int) (ρ' : PSt) (Q : Option Int → Hp → Prop), Rl X.K G ρ σ H → f ρ = some (o, ρ') → (∀ G' H', Rl X.K G' ρ' σ H' → Stp G ρ σ H G' ρ' σ H' → Q o H') → t σ H Q
def noP : PF := fun ρ => some (none, ρ)
def intS : S → Option Int
  | .fz (.int i) => some i
  | _ => none
theorem intS_ok {K : PySem.W.Frag} {G H H' : Hp} {ρ : PSt} {σ : L2.St} {s : S} {v : V} {i : Int} (h : ResR K G ρ σ H H' s v) (e : intS s = some i) : v = .int i := by
  cases s with
  | fz d =>
    cases d with
    | int i' =>
      cases e
      cases (show Dq K G v (.int i) from h)
      rfl
    | _ => cases e
  | _ => cases e
def someP (f : EF) : PF := fun ρ => (f ρ).bind fun p => (intS p.1).map fun i => (some i, p.2)
theorem dp_none : DP X none noP := ⟨_, po_none, fun G ρ σ H o ρ' Q R e q => by cases e; exact q G H R Stp.rfl⟩
theorem dp_some {e : Expr} {f : EF} (h : DE X e f) : DP X (some e) (someP f) := by
  obtain ⟨t, p, st⟩ := h
  refine ⟨_, po_some p, fun G ρ σ H o ρ' Q R e q => ?_⟩
  obtain ⟨⟨s1, ρ1⟩, e1, e⟩ := of_bind e
  obtain ⟨i, e2, e⟩ := of_map e
  cases e
  exact st G ρ σ H s1 ρ1 _ R e1 fun v G1 H1 E1 => ⟨i, intS_ok E1.res e2, q G1 H1 E1.rl E1.st⟩
/-- what is cut: data, or the script -/
def cutG (lo hi : Option Int) : PyData → Option S
  | .list ds => some (.ol (cutD ds lo hi))
  | .tuple ds => some (.fz (.tuple (cutD ds lo hi)))
  | .str z => if okN z.length then some (.fz (.str (cutS z lo hi))) else none
  | _ => none
def cutS1 (s : S) (ρ : PSt) (lo hi : Option Int) : Option S :=
  match s with
  | .sc ns => some (.ol ((cutD ns lo hi).map .int))
  | s => (s.peek ρ).bind (cutG lo hi)
def slF (f : EF) (l h : PF) : EF := fun ρ => (f ρ).bind fun p => (l p.2).bind fun q => (h q.2).bind fun r => (cutS1 p.1 r.2 q.1 r.1).map fun s => (s, r.2)
theorem ints_data {K : PySem.W.Frag} {A : Hp} : ∀ ns : List Int, DqAll K A (ns.map V.int) (ns.map PyData.int)
  | [] => .nil
  | n :: ns => .cons (.int n) (ints_data ns)
theorem cut_whole {α : Type} {xs : List α} {lo hi : Option Int} (h : HT.sIx xs.length 0 lo = 0 ∧ HT.sIx xs.length xs.length hi = xs.length) : cutD xs lo hi = xs := by
  unfold cutD
  rw [h.1, h.2]
  simp
theorem de_slice {e : Expr} {lo hi : Option Expr} {f : EF} {l h : PF} {p2 : Pos} (he : DE X e f) (hl : DP X lo l) (hh : DP X hi h) : DE X (.Subscript e (.Slice lo hi none p2) pos) (slF f l h) := by
  obtain ⟨t, p, st⟩ := he
  obtain ⟨tl, pl, sl⟩ := hl
  obtain ⟨th, ph, sh⟩ := hh
  refine ⟨_, pe_slice (sl_list.or (sl_tupA.or sl_str)) p pl ph, fun G ρ σ H s ρ' Q R e q => ?_⟩
  obtain ⟨⟨s1, ρ1⟩, e1, e⟩ := of_bind e
  obtain ⟨⟨o2, ρ2⟩, e2, e⟩ := of_bind e
  obtain ⟨⟨o3, ρ3⟩, e3, e⟩ := of_bind e
  obtain ⟨s4, e4, e⟩ := of_map e
  cases e
  refine st G ρ σ H s1 ρ1 _ R e1 fun v G1 H1 E1 => ?_
  refine sl G1 ρ1 σ H1 o2 ρ2 _ E1.rl e2 fun G2 H2 R2 p2 => ?_
  refine sh G2 ρ2 σ H2 o3 ρ3 _ R2 e3 fun G3 H3 R3 p3 => ?_
  have k := (E1.res.later p2).later p3
  have pp := (E1.st.trans p2).trans p3
  have gen : ∀ d, s1.peek ρ3 = some d → cutG o2 o3 d = some s → (rSlL X.K v o2 o3 H3 Q ∨ rSlA X.K v o2 o3 H3 Q ∨ rSlS v o2 o3 H3 Q) := by
    intro d ed es
    have pk := peek_ok R3 k ed
    cases d with
    | list ds =>
      cases es
      obtain ⟨a, xs, ea, ha, da⟩ := pk.list R3.sub
      subst ea
      exact .inl ⟨a, xs, rfl, .of ha, fun p n => q _ _ _ (ev_new R3 pp (.lst R3.sub n (cut_data da _ _)))⟩
    | tuple ds =>
      cases es
      obtain ⟨a, xs, ea, ha, da, ga⟩ := pk.tup R3.sub
      subst ea
      refine .inr (.inl ⟨a, xs, rfl, ha, fun w => ?_, fun w p n => q _ _ _ (ev_new R3 pp (.tup R3.sub n (cut_data da _ _)))⟩)
      rw [da.len] at w
      rw [cut_whole w] at q
      exact q _ _ _ (ev_new R3 pp (.same R3.sub (.tup ga da)))
    | str z =>
      by_cases c : okN z.length = true
      · have es' : (if okN z.length = true then some (S.fz (.str (cutS z o2 o3))) else none) = some s := es
        rw [if_pos c] at es'
        cases es'
        rw [pk.str]
        exact .inr (.inr ⟨z, rfl, okN_le c, q _ _ _ (ev_new R3 pp (.same R3.sub (.str _)))⟩)
      · have es' : (if okN z.length = true then some (S.fz (.str (cutS z o2 o3))) else none) = some s := es
        rw [if_neg c] at es'
        cases es'
    | _ => cases es
  cases s1 with
  | sc ns =>
    cases e4
    obtain ⟨a, ea, qa⟩ := (show ∃ a, v = .ref a ∧ SqL X.K G3 a (ns.map V.int) from k)
    subst ea
    refine .inl ⟨a, _, rfl, sqL_up R3.sub qa, fun p n => q _ _ _ (ev_new R3 pp (.lst R3.sub n ?_))⟩
    have := cut_data (ints_data (K := X.K) (A := G3) ns) o2 o3
    rwa [show (cutD ns o2 o3).map PyData.int = cutD (ns.map PyData.int) o2 o3 by
      unfold cutD
      rw [List.length_map, List.map_take, List.map_drop]]
  | fz d' => obtain ⟨d, ed, es⟩ := of_bind (show (S.peek ρ3 (.fz d')).bind (cutG o2 o3) = some s from e4); exact gen d ed es
  | ol d' => obtain ⟨d, ed, es⟩ := of_bind (show (S.peek ρ3 (.ol d')).bind (cutG o2 o3) = some s from e4); exact gen d ed es
  | od d' => obtain ⟨d, ed, es⟩ := of_bind (show (S.peek ρ3 (.od d')).bind (cutG o2 o3) = some s from e4); exact gen d ed es
  | al d' => obtain ⟨d, ed, es⟩ := of_bind (show (S.peek ρ3 (.al d')).bind (cutG o2 o3) = some s from e4); exact gen d ed es

/-! ### calls of built-ins -/
def DCl (X : Cx) (fv : Value) (g : List PyData → Option S) : Prop :=
  ∃ r, CallR X fv r ∧ ∀ (G H : Hp) (vs : List V) (ds : List PyData) (s : S) (Q : VK), Sub G H → PkAll X.K G H vs ds → g ds = some s → (∀ v G' H', NewR X.K G H s v G' H' → Q v H') → r vs H Q
def clF (g : List PyData → Option S) (f : AF) : EF := fun ρ => (f ρ).bind fun p => (peekAll p.2 p.1).bind fun ds => (g ds).map fun s => (s, p.2)
theorem cl_run {fv : Value} {g : List PyData → Option S} {f : AF} {r : List V → Hp → VK → Prop} {t : TA} (hs : ∀ (G H : Hp) (vs : List V) (ds : List PyData) (s : S) (Q : VK), Sub G H → PkAll X.K G H vs ds → g ds = some s → (∀ v G' H', NewR X.K G H s v G' H' → Q v H') → r vs H Q)
    (sa : ∀ (G : Hp) (ρ : PSt) (σ : L2.St) (H : Hp) (ss : List S) (ρ' : PSt) (Q : List V → Hp → Prop), Rl X.K G ρ σ H → f ρ = some (ss, ρ') → (∀ vs G' H', Rl X.K G' ρ' σ H' → Stp G ρ σ H G' ρ' σ H' → ArgsR X.K G' σ ss vs → Q vs H') → t σ H Q)
    {G : Hp} {ρ : PSt} {σ : L2.St} {H : Hp} {s : S} {ρ' : PSt} {Q : VK} (R : Rl X.K G ρ σ H) (e : clF g f ρ = some (s, ρ')) (q : ∀ v G' H', EvR X.K G ρ σ H s ρ' v G' H' → Q v H') : tCB r t σ H Q := by
  obtain ⟨⟨ss, ρ1⟩, e1, e⟩ := of_bind e
  obtain ⟨ds, e2, e⟩ := of_bind e
  obtain ⟨s', e3, e⟩ := of_map e
  cases e
  exact sa G ρ σ H ss ρ1 _ R e1 fun vs G1 H1 R1 p1 a1 => hs G1 H1 vs ds s Q R1.sub (peekAll_ok R1 a1 e2) e3 fun v G2 H2 N => q v G2 H2 (ev_new R1 p1 N)
variable {x : Str} {p : Pos} {e : Expr} {es : List Expr} {f : AF} {g : List PyData → Option S}
theorem de_callB {id : String} (hc : DCl X (.builtin id) g) (hg : Gl X x) (hm : X.mg x = none) (hv : bootBuiltins x = some (.builtin id)) (ha : DA X (e :: es) f) (hn : x ≠ "__name__" := by decide) (hdb : (x == ("__debug__" : Str)) = false := by decide)
    (he : starEach (e :: es) X.env = (false, eval e X.env) :: starEach es X.env := by rfl) (hpl : (backTo pos (starEach es X.env)).any (·.1) = false := by rfl) : DE X (.Call (.Name x p) (e :: es) [] pos) (clF g f) := by
  obtain ⟨r, o, hs⟩ := hc
  obtain ⟨t, pa, sa⟩ := ha
  exact ⟨_, pe_callB o hg hm hv pa hn hdb he hpl, fun G ρ σ H s ρ' Q R e q => cl_run (fv := .builtin id) hs sa R e q⟩
theorem de_callTy {T : String} (hc : DCl X (.type T) g) (hg : Gl X x) (hm : X.mg x = none) (hv : bootBuiltins x = some (.type T)) (ha : DA X (e :: es) f) (hn : x ≠ "__name__" := by decide) (hdb : (x == ("__debug__" : Str)) = false := by decide)
    (he : starEach (e :: es) X.env = (false, eval e X.env) :: starEach es X.env := by rfl) (hpl : (backTo pos (starEach es X.env)).any (·.1) = false := by rfl) : DE X (.Call (.Name x p) (e :: es) [] pos) (clF g f) := by
  obtain ⟨r, o, hs⟩ := hc
  obtain ⟨t, pa, sa⟩ := ha
  exact ⟨_, pe_callTy o hg hm hv pa hn hdb he hpl, fun G ρ σ H s ρ' Q R e q => cl_run (fv := .type T) hs sa R e q⟩
theorem de_callM {id : String} (hc : DCl X (.builtin id) g) (hg : Gl X x) (hm : X.mg x = some (.builtin id)) (ha : DA X (e :: es) f) (hdb : (x == ("__debug__" : Str)) = false := by decide)
    (he : starEach (e :: es) X.env = (false, eval e X.env) :: starEach es X.env := by rfl) (hpl : (backTo pos (starEach es X.env)).any (·.1) = false := by rfl) : DE X (.Call (.Name x p) (e :: es) [] pos) (clF g f) := by
  obtain ⟨r, o, hs⟩ := hc
  obtain ⟨t, pa, sa⟩ := ha
  exact ⟨_, pe_callBfun o hg hm pa hdb he hpl, fun G ρ σ H s ρ' Q R e q => cl_run (fv := .builtin id) hs sa R e q⟩
def gAbs : List PyData → Option S
  | [.int i] => some (.fz (.int (if i < 0 then -i else i)))
  | _ => none
theorem dcl_abs : DCl X (.builtin "abs") gAbs := by
  refine ⟨_, call_abs, fun G H vs ds s Q sg pk eg q => ?_⟩
  match ds, pk with
  | [.int i], .cons h .nil =>
    cases eg
    rw [h.int]
    exact ⟨i, rfl, q _ G H (.same sg (.int _))⟩
def gGcd : List PyData → Option S
  | [.int a, .int b] => some (.fz (.int ((Nat.gcd a.natAbs b.natAbs : Nat) : Int)))
  | _ => none
theorem dcl_gcd : DCl X (.builtin "math.gcd") gGcd := by
  refine ⟨_, cr_gcd, fun G H vs ds s Q sg pk eg q => ?_⟩
  match ds, pk with
  | [.int a, .int b], .cons h (.cons h2 .nil) =>
    cases eg
    rw [h.int, h2.int]
    exact ⟨a, b, rfl, q _ G H (.same sg (.int _))⟩
def gLen : List PyData → Option S
  | [.list xs] => some (.fz (.int xs.length))
  | [.tuple xs] => some (.fz (.int xs.length))
  | [.str z] => if okN z.length then some (.fz (.int z.length)) else none
  | _ => none
theorem dcl_len : DCl X (.builtin "len") gLen := by
  refine ⟨_, call_len_seq.or call_len_str, fun G H vs ds s Q sg pk eg q => ?_⟩
  match ds, pk with
  | [.list xs], .cons h .nil =>
    cases eg
    obtain ⟨a, ys, ea, ha, da⟩ := h.list sg
    subst ea
    refine .inl ⟨a, ys, rfl, .inl (.of ha), ?_⟩
    rw [da.len]
    exact q _ G H (.same sg (.int _))
  | [.tuple xs], .cons h .nil =>
    cases eg
    obtain ⟨a, ys, ea, ha, da, _⟩ := h.tup sg
    subst ea
    refine .inl ⟨a, ys, rfl, .inr ha, ?_⟩
    rw [da.len]
    exact q _ G H (.same sg (.int _))
  | [.str z], .cons h .nil =>
    by_cases c : okN z.length = true
    · rw [show gLen [.str z] = _ from if_pos c] at eg
      cases eg
      rw [h.str]
      exact .inr ⟨z, rfl, okN_le c, q _ G H (.same sg (.int _))⟩
    · rw [show gLen [.str z] = _ from if_neg c] at eg
      cases eg
def gList : List PyData → Option S
  | [.list xs] => some (.ol xs)
  | [.tuple xs] => some (.ol xs)
  | _ => none
theorem dcl_list : DCl X (.type "list") gList := by
  refine ⟨_, call_list_of, fun G H vs ds s Q sg pk eg q => ?_⟩
  match ds, pk with
  | [.list xs], .cons h .nil =>
    cases eg
    obtain ⟨a, ys, ea, ha, da⟩ := h.list sg
    subst ea
    exact ⟨a, ys, rfl, .inl (.of ha), fun p n => q _ _ _ (.lst sg n da)⟩
  | [.tuple xs], .cons h .nil =>
    cases eg
    obtain ⟨a, ys, ea, ha, da, _⟩ := h.tup sg
    subst ea
    exact ⟨a, ys, rfl, .inr ha, fun p n => q _ _ _ (.lst sg n da)⟩
def gTuple : List PyData → Option S
  | [.list xs] => some (.fz (.tuple xs))
  | [.tuple xs] => some (.fz (.tuple xs))
  | _ => none
theorem dcl_tuple : DCl X (.type "tuple") gTuple := by
  refine ⟨_, call_tuple_of, fun G H vs ds s Q sg pk eg q => ?_⟩
  match ds, pk with
  | [.list xs], .cons h .nil =>
    cases eg
    obtain ⟨a, ys, ea, ha, da⟩ := h.list sg
    subst ea
    exact ⟨a, ys, rfl, .inl ⟨.of ha, fun p n => q _ _ _ (.tup sg n da)⟩⟩
  | [.tuple xs], .cons h .nil =>
    cases eg
    obtain ⟨a, ys, ea, ha, da, ga⟩ := h.tup sg
    subst ea
    exact ⟨a, ys, rfl, .inr ⟨ha, q _ _ _ (.same sg (.tup ga da))⟩⟩
def gInt : List PyData → Option S
  | [.int i] => some (.fz (.int i))
  | [.bool b] => some (.fz (.int (if b then 1 else 0)))
  | _ => none
theorem dcl_int : DCl X (.type "int") gInt := by
  refine ⟨_, call_int1, fun G H vs ds s Q sg pk eg q => ?_⟩
  match ds, pk with
  | [.int i], .cons h .nil =>
    cases eg
    rw [h.int]
    exact .inl ⟨i, rfl, q _ G H (.same sg (.int _))⟩
  | [.bool b], .cons h .nil =>
    cases eg
    rw [h.bool]
    exact .inr ⟨b, rfl, q _ G H (.same sg (.int _))⟩
end
end DL

/-! D4: statements told as functions of states of data. -/
namespace DL
open L2 PySem PySem.Spec PyProof.Rows

inductive Out where
  | nx (ρ : PSt)
  | rt (s : S) (ρ : PSt)
  | bk (ρ : PSt)
  | ct (ρ : PSt)
abbrev SF := PSt → Option Out
abbrev Par (pm : Nat → Bool) (σ σ' : L2.St) : Prop := ∀ i, pm i = true → σ'[i]? = σ[i]?
/-- what is handed back: frozen data, or an object of one's own that is new -/
def RetR (K : PySem.W.Frag) (G' : Hp) (ρ' : PSt) (σ' : L2.St) (H H' : Hp) (s : S) (v : V) : Prop :=
  match s with
  | .fz d => Dq K G' v d
  | .ol ds => SlotR K G' H' (.ol ds) v ∧ ∀ a, v = .ref a → H a = none ∧ ¬ Own ρ' σ' a
  | .od ds => SlotR K G' H' (.od ds) v ∧ ∀ a, v = .ref a → H a = none ∧ ¬ Own ρ' σ' a
  | _ => False
def OutQ (pm : Nat → Bool) (K : PySem.W.Frag) (G : Hp) (ρ : PSt) (σ : L2.St) (H : Hp) (o : Out) (D : Ends) : Prop :=
  match o with
  | .nx ρ' => ∀ G' σ' H', Rl K G' ρ' σ' H' → Stp G ρ σ H G' ρ' σ' H' → Par pm σ σ' → D.nx σ' H'
  | .bk ρ' => ∀ G' σ' H', Rl K G' ρ' σ' H' → Stp G ρ σ H G' ρ' σ' H' → Par pm σ σ' → D.bk σ' H'
  | .ct ρ' => ∀ G' σ' H', Rl K G' ρ' σ' H' → Stp G ρ σ H G' ρ' σ' H' → Par pm σ σ' → D.ct σ' H'
  | .rt s ρ' => ∀ v G' σ' H', Rl K G' ρ' σ' H' → Stp G ρ σ H G' ρ' σ' H' → Par pm σ σ' → RetR K G' ρ' σ' H H' s v → D.rt v H'
def SOk (pm : Nat → Bool) (K : PySem.W.Frag) (t : TS) (m : SF) : Prop :=
  ∀ (G : Hp) (ρ : PSt) (σ : L2.St) (H : Hp) (o : Out) (D : Ends), Rl K G ρ σ H → m ρ = some o → OutQ pm K G ρ σ H o D → t D σ H
def DS (pm : Nat → Bool) (X : Cx) (st : Stmt) (m : SF) : Prop := ∃ t, PS X st t ∧ SOk pm X.K t m
def DB (pm : Nat → Bool) (X : Cx) (sts : List Stmt) (m : SF) : Prop := ∃ t, PSs X sts t ∧ SOk pm X.K t m

theorem RetR.back {K : PySem.W.Frag} {G' : Hp} {ρ' : PSt} {σ' : L2.St} {H H1 H' : Hp} {s : S} {v : V} (h : RetR K G' ρ' σ' H1 H' s v) (nb : ∀ a, H1 a = none → H a = none) : RetR K G' ρ' σ' H H' s v := by
  cases s with
  | fz d => exact h
  | ol ds => exact ⟨h.1, fun a e => ⟨nb a (h.2 a e).1, (h.2 a e).2⟩⟩
  | od ds => exact ⟨h.1, fun a e => ⟨nb a (h.2 a e).1, (h.2 a e).2⟩⟩
  | al i => exact h
  | sc i => exact h
/-- from a later start -/
theorem OutQ.after {pm : Nat → Bool} {K : PySem.W.Frag} {G G1 : Hp} {ρ ρ1 : PSt} {σ σ1 : L2.St} {H H1 : Hp} {o : Out} {D : Ends} (p : Stp G ρ σ H G1 ρ1 σ1 H1) (pr : Par pm σ σ1) (q : OutQ pm K G ρ σ H o D) : OutQ pm K G1 ρ1 σ1 H1 o D := by
  have tr : ∀ {σ' : L2.St}, Par pm σ1 σ' → Par pm σ σ' := fun h i e => (h i e).trans (pr i e)
  cases o with
  | nx ρ' => exact fun G' σ' H' R p' pr' => q G' σ' H' R (p.trans p') (tr pr')
  | bk ρ' => exact fun G' σ' H' R p' pr' => q G' σ' H' R (p.trans p') (tr pr')
  | ct ρ' => exact fun G' σ' H' R p' pr' => q G' σ' H' R (p.trans p') (tr pr')
  | rt s ρ' => exact fun v G' σ' H' R p' pr' r => q v G' σ' H' R (p.trans p') (tr pr') (r.back fun _ n => p.none_back n)

/-! ### blocks -/
def seqF (m1 m2 : SF) : SF := fun ρ => (m1 ρ).bind fun o => match o with
  | .nx ρ' => m2 ρ'
  | o => some o
def skipF : SF := fun ρ => some (.nx ρ)
section
variable {pm : Nat → Bool} {X : Cx} {pos : Pos} {st : Stmt} {rest : List Stmt} {m m1 m2 : SF}
theorem db_nil : DB pm X [] skipF := ⟨_, pss_nil, fun G ρ σ H o D R e q => by cases e; exact q G σ H R Stp.rfl fun _ _ => rfl⟩
theorem db_one (h : DS pm X st m) : DB pm X [st] m := by
  obtain ⟨t, p, s⟩ := h
  exact ⟨t, pss_one p, s⟩
theorem db_cons (h1 : DS pm X st m1) (h2 : DB pm X rest m2) : DB pm X (st :: rest) (seqF m1 m2) := by
  obtain ⟨t, p, s⟩ := h1
  obtain ⟨u, pu, su⟩ := h2
  refine ⟨_, pss_cons p pu, fun G ρ σ H o D R e q => ?_⟩
  obtain ⟨o1, e1, e⟩ := of_bind e
  refine s G ρ σ H o1 { D with nx := u D } R e1 ?_
  cases o1 with
  | nx ρ1 => exact fun G1 σ1 H1 R1 p1 pr1 => su G1 ρ1 σ1 H1 o D R1 e (q.after p1 pr1)
  | bk ρ1 => cases e; exact q
  | ct ρ1 => cases e; exact q
  | rt s ρ1 => cases e; exact q
theorem ds_pass : DS pm X (.Pass pos) skipF := ⟨_, ps_pass, fun G ρ σ H o D R e q => by cases e; exact q G σ H R Stp.rfl fun _ _ => rfl⟩
theorem ds_break : DS pm X (.Break pos) (fun ρ => some (.bk ρ)) := ⟨_, ps_break, fun G ρ σ H o D R e q => by cases e; exact q G σ H R Stp.rfl fun _ _ => rfl⟩
theorem ds_cont : DS pm X (.Continue pos) (fun ρ => some (.ct ρ)) := ⟨_, ps_continue, fun G ρ σ H o D R e q => by cases e; exact q G σ H R Stp.rfl fun _ _ => rfl⟩
/-- what is never come to -/
theorem ds_never : DS pm X st (fun _ => none) := ⟨_, ps_never, fun _ _ _ _ _ _ _ e _ => nomatch e⟩
def exprF (f : EF) : SF := fun ρ => (f ρ).map fun p => .nx p.2
theorem ds_expr {e : Expr} {f : EF} (h : DE X e f) (hs : swapsWith e none pos.line X.env = pure false := by rfl) : DS pm X (.Expr e pos) (exprF f) := by
  obtain ⟨t, p, s⟩ := h
  refine ⟨_, ps_expr p hs, fun G ρ σ H o D R e q => ?_⟩
  obtain ⟨⟨s1, ρ1⟩, e1, e⟩ := of_map e
  cases e
  exact s G ρ σ H s1 ρ1 _ R e1 fun v G1 H1 E => q G1 σ H1 E.rl E.st fun _ _ => rfl
/-- frozen, unless new -/
def retS (s : S) (ρ : PSt) : Option (S × PSt) :=
  match s with
  | .fz d => some (.fz d, ρ)
  | .ol ds => some (.ol ds, ρ)
  | .od ds => some (.od ds, ρ)
  | .al i => (S.frz ρ (.al i)).map fun p => (.fz p.1, p.2)
  | .sc _ => none
theorem retS_ok {K : PySem.W.Frag} {G H G1 H1 : Hp} {ρ ρ1 ρ2 : PSt} {σ : L2.St} {s s2 : S} {v : V} (E : EvR K G ρ σ H s ρ1 v G1 H1) (e : retS s ρ1 = some (s2, ρ2)) : ∃ G2, Rl K G2 ρ2 σ H1 ∧ Stp G ρ σ H G2 ρ2 σ H1 ∧ RetR K G2 ρ2 σ H H1 s2 v := by
  cases s with
  | fz d => cases e; exact ⟨G1, E.rl, E.st, E.res⟩
  | ol d => cases e; exact ⟨G1, E.rl, E.st, E.res⟩
  | od d => cases e; exact ⟨G1, E.rl, E.st, E.res⟩
  | al i =>
    obtain ⟨⟨d, ρ3⟩, e1, e2⟩ := of_map e
    cases e2
    obtain ⟨G2, E2⟩ := frz_ok E e1
    exact ⟨G2, E2.rl, E2.st, E2.res⟩
  | sc d => cases e
def retF (f : EF) : SF := fun ρ => (f ρ).bind fun p => (retS p.1 p.2).map fun q => .rt q.1 q.2
theorem ds_ret {e : Expr} {f : EF} (h : DE X e f) : DS pm X (.Return (some e) pos) (retF f) := by
  obtain ⟨t, p, s⟩ := h
  refine ⟨_, ps_ret p, fun G ρ σ H o D R e q => ?_⟩
  obtain ⟨⟨s1, ρ1⟩, e1, e⟩ := of_bind e
  obtain ⟨⟨s2, ρ2⟩, e2, e⟩ := of_map e
  cases e
  refine s G ρ σ H s1 ρ1 _ R e1 fun v G1 H1 E => ?_
  obtain ⟨G2, R2, p2, r2⟩ := retS_ok E e2
  exact q v G2 σ H1 R2 p2 (fun _ _ => rfl) r2
def ifSF (c : TF) (m1 m2 : SF) : SF := fun ρ => (c ρ).bind fun p => if p.1 then m1 p.2 else m2 p.2
theorem ds_if {c : Expr} {a b : List Stmt} {fc : TF} (hc : DT X c fc) (ha : DB pm X a m1) (hb : DB pm X b m2) : DS pm X (.If c a b pos) (ifSF fc m1 m2) := by
  obtain ⟨tc, pc, sc⟩ := hc
  obtain ⟨ta, pa, sa⟩ := ha
  obtain ⟨tb, pb, sb⟩ := hb
  refine ⟨_, ps_if pc pa pb, fun G ρ σ H o D R e q => ?_⟩
  obtain ⟨⟨c1, ρ1⟩, e1, e⟩ := of_bind e
  refine sc G ρ σ H c1 ρ1 _ R e1 fun G1 H1 R1 p1 => ?_
  cases c1 with
  | true => exact sa G1 ρ1 σ H1 o D R1 e (q.after p1 fun _ _ => rfl)
  | false => exact sb G1 ρ1 σ H1 o D R1 e (q.after p1 fun _ _ => rfl)

/-! ### names are stored -/
theorem Rl.setFz {K : PySem.W.Frag} {G : Hp} {ρ : PSt} {σ : L2.St} {H : Hp} {i : Nat} {s : S} {v : V} (R : Rl K G ρ σ H) (so : s.own = false) (h : SlotR K G H s v) : Rl K G (ρ.set i (some s)) (σ.set i (some v)) H := by
  have ow : ∀ j, OwnAt (ρ.set i (some s)) j → OwnAt ρ j ∧ j ≠ i := fun j ⟨s', e, o⟩ => by
    by_cases hj : i = j
    · subst hj
      rw [List.getElem?_set_self'] at e
      cases q : ρ[i]? with
      | none => rw [q] at e; cases e
      | some z => rw [q] at e; cases e; rw [so] at o; cases o
    · rw [List.getElem?_set_ne hj] at e
      exact ⟨⟨s', e, o⟩, fun z => hj z.symm⟩
  refine ⟨R.sub, fun j s' e => ?_, fun j k a hj hk e1 e2 => ?_, by rw [List.length_set, List.length_set]; exact R.len⟩
  · by_cases hj : i = j
    · subst hj
      rw [List.getElem?_set_self'] at e
      cases q : ρ[i]? with
      | none => rw [q] at e; cases e
      | some z =>
        rw [q] at e
        cases e
        have hi : i < σ.length := by rw [← R.len]; exact (List.getElem?_eq_some_iff.mp q).1
        exact ⟨v, List.getElem?_set_self hi, h⟩
    · rw [List.getElem?_set_ne hj] at e
      rw [List.getElem?_set_ne hj]
      exact R.slot j s' e
  · obtain ⟨o1, n1⟩ := ow j hj
    obtain ⟨o2, n2⟩ := ow k hk
    rw [List.getElem?_set_ne n1.symm] at e1
    rw [List.getElem?_set_ne n2.symm] at e2
    exact R.dist j k a o1 o2 e1 e2
theorem Stp.setFz {G : Hp} {ρ : PSt} {σ : L2.St} {H : Hp} {i : Nat} {s : S} {v : V} (so : s.own = false) : Stp G ρ σ H G (ρ.set i (some s)) (σ.set i (some v)) H := by
  refine ⟨Sub.rfl, fun _ _ h => .inl h, fun _ _ h _ => h, fun a ⟨j, ⟨s', e, o⟩, e2⟩ => .inl ?_, fun _ h => h⟩
  by_cases hj : i = j
  · subst hj
    rw [List.getElem?_set_self'] at e
    cases q : ρ[i]? with
    | none => rw [q] at e; cases e
    | some z => rw [q] at e; cases e; rw [so] at o; cases o
  · rw [List.getElem?_set_ne hj] at e e2
    exact ⟨j, ⟨s', e, o⟩, e2⟩
theorem Rl.setOw {K : PySem.W.Frag} {G : Hp} {ρ : PSt} {σ : L2.St} {H : Hp} {i : Nat} {s : S} {a : Addr} (R : Rl K G ρ σ H) (h : SlotR K G H s (.ref a)) (n : ¬ Own ρ σ a) : Rl K G (ρ.set i (some s)) (σ.set i (some (.ref a))) H := by
  have lk : ∀ j s', (ρ.set i (some s))[j]? = some (some s') → (j = i ∧ s' = s ∧ i < ρ.length) ∨ (j ≠ i ∧ ρ[j]? = some (some s')) := fun j s' e => by
    by_cases hj : i = j
    · subst hj
      rw [List.getElem?_set_self'] at e
      cases q : ρ[i]? with
      | none => rw [q] at e; cases e
      | some z => rw [q] at e; cases e; exact .inl ⟨rfl, rfl, (List.getElem?_eq_some_iff.mp q).1⟩
    · rw [List.getElem?_set_ne hj] at e
      exact .inr ⟨fun z => hj z.symm, e⟩
  refine ⟨R.sub, fun j s' e => ?_, fun j k b hj hk e1 e2 => ?_, by rw [List.length_set, List.length_set]; exact R.len⟩
  · rcases lk j s' e with ⟨rfl, rfl, hi⟩ | ⟨hj, e⟩
    · exact ⟨_, List.getElem?_set_self (by rw [← R.len]; exact hi), h⟩
    · rw [List.getElem?_set_ne hj.symm]
      exact R.slot j s' e
  · obtain ⟨s1, f1, o1⟩ := hj
    obtain ⟨s2, f2, o2⟩ := hk
    rcases lk j s1 f1 with ⟨ej, _, hi⟩ | ⟨nj, g1⟩
    · rcases lk k s2 f2 with ⟨ek, _, _⟩ | ⟨nk, g2⟩
      · rw [ej, ek]
      · rw [ej, List.getElem?_set_self (by rw [← R.len]; exact hi)] at e1
        rw [List.getElem?_set_ne nk.symm] at e2
        cases e1
        exact absurd ⟨k, ⟨s2, g2, o2⟩, e2⟩ n
    · rw [List.getElem?_set_ne nj.symm] at e1
      rcases lk k s2 f2 with ⟨ek, _, hi⟩ | ⟨nk, g2⟩
      · rw [ek, List.getElem?_set_self (by rw [← R.len]; exact hi)] at e2
        cases e2
        exact absurd ⟨j, ⟨s1, g1, o1⟩, e1⟩ n
      · rw [List.getElem?_set_ne nk.symm] at e2
        exact R.dist j k b ⟨s1, g1, o1⟩ ⟨s2, g2, o2⟩ e1 e2
theorem own_setOw {ρ : PSt} {σ : L2.St} {i : Nat} {s : S} {a b : Addr} (l : ρ.length = σ.length) (h : Own (ρ.set i (some s)) (σ.set i (some (.ref a))) b) : Own ρ σ b ∨ b = a := by
  obtain ⟨j, ⟨s', e, o⟩, e2⟩ := h
  by_cases hj : i = j
  · subst hj
    rw [List.getElem?_set_self'] at e
    cases q : ρ[i]? with
    | none => rw [q] at e; cases e
    | some z =>
      rw [List.getElem?_set_self (by rw [← l]; exact (List.getElem?_eq_some_iff.mp q).1)] at e2
      cases e2
      exact .inr rfl
  · rw [List.getElem?_set_ne hj] at e e2
    exact .inl ⟨j, ⟨s', e, o⟩, e2⟩
/-- what a store keeps: frozen, the script, or an object of one's own -/
def stoS (s : S) (ρ : PSt) : Option (S × PSt) :=
  match s with
  | .al i => (S.frz ρ (.al i)).map fun p => (.fz p.1, p.2)
  | s => some (s, ρ)
def setF (i : Nat) (f : EF) : SF := fun ρ => (f ρ).bind fun p => (stoS p.1 p.2).map fun q => .nx (q.2.set i (some q.1))
theorem par_set {σ : L2.St} {i : Nat} {v : V} (hp : pm i = false) : Par pm σ (σ.set i (some v)) := fun j e => by
  rw [List.getElem?_set_ne]
  rintro rfl
  rw [hp] at e; cases e
/-- a store behind an expression -/
theorem sto_ok {K : PySem.W.Frag} {G H G1 H1 : Hp} {ρ ρ1 ρ2 : PSt} {σ : L2.St} {s s2 : S} {v : V} {i : Nat} (E : EvR K G ρ σ H s ρ1 v G1 H1) (e : stoS s ρ1 = some (s2, ρ2)) :
    ∃ G2, Rl K G2 (ρ2.set i (some s2)) (σ.set i (some v)) H1 ∧ Stp G ρ σ H G2 (ρ2.set i (some s2)) (σ.set i (some v)) H1 := by
  have own : ∀ s : S, s.own = true → SlotR K G1 H1 s v → (∀ a, v = .ref a → H a = none ∧ ¬ Own ρ1 σ a) → ∃ G2, Rl K G2 (ρ1.set i (some s)) (σ.set i (some v)) H1 ∧ Stp G ρ σ H G2 (ρ1.set i (some s)) (σ.set i (some v)) H1 := fun s so r fr => by
    obtain ⟨a, u, ea, g, hh⟩ := r.ref so
    subst ea
    obtain ⟨f1, f2⟩ := fr a rfl
    refine ⟨G1, E.rl.setOw r f2, E.st.sub, E.st.nw, E.st.keep, fun b hb => ?_, E.st.th⟩
    rcases own_setOw E.rl.len hb with z | z
    · exact E.st.own b z
    · subst z; exact .inr f1
  cases s with
  | fz d => cases e; exact ⟨G1, E.rl.setFz rfl E.res, E.st.trans (Stp.setFz rfl)⟩
  | sc d => cases e; exact ⟨G1, E.rl.setFz rfl E.res, E.st.trans (Stp.setFz rfl)⟩
  | ol d => cases e; exact own (.ol d) rfl E.res.1 E.res.2
  | od d => cases e; exact own (.od d) rfl E.res.1 E.res.2
  | al j =>
    obtain ⟨⟨d, ρ3⟩, e1, e2⟩ := of_map e
    cases e2
    obtain ⟨G2, E2⟩ := frz_ok E e1
    exact ⟨G2, E2.rl.setFz rfl E2.res, E2.st.trans (Stp.setFz rfl)⟩
theorem ds_set {i : Nat} {x : Str} {e : Expr} {f : EF} {pos' : Pos} (hN : X.N.Nodup) (hi : X.N[i]? = some x) (hx : Loc X.env.scope x) (he : DE X e f) (hp : pm i = false) (hs : swapsWith e (some (.Name x pos')) pos.line X.env = pure false := by rfl)
    (hf : X.fn x = true ∨ X.env.scope.names.lookup x = some .local := by first | exact .inl rfl | exact .inr rfl | assumption) : DS pm X (.Assign [.Name x pos'] e pos) (setF i f) := by
  obtain ⟨t, p, s⟩ := he
  refine ⟨_, ps_set hN hi hx p hs hf, fun G ρ σ H o D R e q => ?_⟩
  obtain ⟨⟨s1, ρ1⟩, e1, e⟩ := of_bind e
  obtain ⟨⟨s2, ρ2⟩, e2, e⟩ := of_map e
  cases e
  refine s G ρ σ H s1 ρ1 _ R e1 fun v G1 H1 E => ?_
  obtain ⟨G2, R2, p2⟩ := sto_ok (i := i) E e2
  exact q G2 _ H1 R2 p2 (par_set hp)

/-! ### targets -/
abbrev GF := PyData → PSt → Option PSt
abbrev GsF := List PyData → PSt → Option PSt
def GOk (pm : Nat → Bool) (K : PySem.W.Frag) (g : TG) (h : GF) : Prop :=
  ∀ (v : V) (d : PyData) (G : Hp) (ρ : PSt) (σ : L2.St) (H : Hp) (ρ' : PSt) (Q : L2.St → Hp → Prop), Rl K G ρ σ H → Dq K G v d → h d ρ = some ρ' → (∀ σ', Rl K G ρ' σ' H → Stp G ρ σ H G ρ' σ' H → Par pm σ σ' ∧ σ'.length = σ.length → Q σ' H) → g v σ H Q
def DG (pm : Nat → Bool) (X : Cx) (tg : Expr) (h : GF) : Prop := ∃ g, PG X tg g ∧ GOk pm X.K g h
def DGs (pm : Nat → Bool) (X : Cx) (tgs : List Expr) (h : GsF) : Prop :=
  ∃ g, PGs X tgs g ∧ ∀ (vs : List V) (ds : List PyData) (G : Hp) (ρ : PSt) (σ : L2.St) (H : Hp) (ρ' : PSt) (Q : L2.St → Hp → Prop), Rl X.K G ρ σ H → DqAll X.K G vs ds → h ds ρ = some ρ' → (∀ σ', Rl X.K G ρ' σ' H → Stp G ρ σ H G ρ' σ' H → Par pm σ σ' ∧ σ'.length = σ.length → Q σ' H) → g vs σ H Q
def gNm (i : Nat) : GF := fun d ρ => some (ρ.set i (some (.fz d)))
theorem dg_name {i : Nat} {x : Str} (hN : X.N.Nodup) (hi : X.N[i]? = some x) (hx : Loc X.env.scope x) (hp : pm i = false) (hf : X.fn x = true ∨ X.env.scope.names.lookup x = some .local := by first | exact .inl rfl | exact .inr rfl | assumption) : DG pm X (.Name x pos) (gNm i) :=
  ⟨_, pg_name hN hi hx hf, fun v d G ρ σ H ρ' Q R h e q => by cases e; exact q _ (R.setFz rfl h) (Stp.setFz rfl) ⟨par_set hp, List.length_set⟩⟩
def gsNil : GsF := fun ds ρ => match ds with
  | [] => some ρ
  | _ => none
def gsCons (h : GF) (hs : GsF) : GsF := fun ds ρ => match ds with
  | d :: ds => (h d ρ).bind fun ρ1 => hs ds ρ1
  | [] => none
theorem dgs_nil : DGs pm X [] gsNil := by
  refine ⟨_, pgs_nil, fun vs ds G ρ σ H ρ' Q R h e q => ?_⟩
  cases h with
  | nil => cases e; exact ⟨rfl, q σ R Stp.rfl ⟨fun _ _ => rfl, rfl⟩⟩
  | cons a b => cases e
theorem dgs_cons {e : Expr} {es : List Expr} {h : GF} {hs : GsF} (h1 : DG pm X e h) (h2 : DGs pm X es hs) (hs' : (assignEach (e :: es) X.env).map (·.2) = assign e X.env :: (assignEach es X.env).map (·.2) := by rfl) : DGs pm X (e :: es) (gsCons h hs) := by
  obtain ⟨g, pg, sg⟩ := h1
  obtain ⟨gs, pgs, sgs⟩ := h2
  refine ⟨_, pgs_cons pg pgs hs', fun vs ds G ρ σ H ρ' Q R hh e q => ?_⟩
  cases hh with
  | nil => cases e
  | cons a b =>
    obtain ⟨ρ1, e1, e2⟩ := of_bind e
    refine ⟨_, _, rfl, sg _ _ G ρ σ H ρ1 _ R a e1 fun σ1 R1 p1 pr1 => ?_⟩
    exact sgs _ _ G ρ1 σ1 H ρ' _ R1 b e2 fun σ2 R2 p2 pr2 => q σ2 R2 (p1.trans p2) ⟨fun i hi => (pr2.1 i hi).trans (pr1.1 i hi), pr2.2.trans pr1.2⟩
def gTp (hs : GsF) : GF := fun d ρ => match d with
  | .tuple ds => hs ds ρ
  | _ => none
theorem dgs_len {es : List Expr} {hs : GsF} : True := trivial
theorem dg_tup {es : List Expr} {k n : Nat} {hs : GsF} (hc : X.calm = true) (h : DGs pm X es hs) (hl : ∀ ds ρ ρ', hs ds ρ = some ρ' → ds.length = n) (hn : (assignEach es X.env).length = n := by rfl) (hst : (assignEach es X.env).findIdx? (·.1) = none := by rfl) : DG pm X (.Tuple es k pos) (gTp hs) := by
  obtain ⟨g, pg, sg⟩ := h
  refine ⟨_, pg_tup hc pg hn hst, fun v d G ρ σ H ρ' Q R hh e q => ?_⟩
  cases d with
  | tuple ds =>
    cases hh with
    | tup h1 h2 => exact ⟨_, _, rfl, sqT_up R.sub h1, by rw [h2.len]; exact hl ds ρ ρ' e, sg _ _ G ρ σ H ρ' Q R h2 e q⟩
  | _ => cases e
/-- target = value -/
def asgF (f : EF) (h : GF) : SF := fun ρ => (f ρ).bind fun p => (S.frz p.2 p.1).bind fun q => (h q.1 q.2).map .nx
theorem ds_asg {tg e : Expr} {f : EF} {h : GF} (he : DE X e f) (hg : DG pm X tg h) (hs : swapsWithSole [tg] e pos.line X.env = pure false := by rfl) (hw : swappedStores [tg] e X.env = pure none := by rfl)
    (h1 : (assignEach [tg] X.env).map (·.2) = [assign tg X.env] := by rfl) : DS pm X (.Assign [tg] e pos) (asgF f h) := by
  obtain ⟨t, p, s⟩ := he
  obtain ⟨g, pg, sg⟩ := hg
  refine ⟨_, ps_asg p pg hs hw h1, fun G ρ σ H o D R e q => ?_⟩
  obtain ⟨⟨s1, ρ1⟩, e1, e⟩ := of_bind e
  obtain ⟨⟨d, ρ2⟩, e2, e⟩ := of_bind e
  obtain ⟨ρ3, e3, e⟩ := of_map e
  cases e
  refine s G ρ σ H s1 ρ1 _ R e1 fun v G1 H1 E => ?_
  obtain ⟨G2, E2⟩ := frz_ok E e2
  exact sg v d G2 ρ2 σ H1 ρ3 _ E2.rl E2.res e3 fun σ' R' p' pr' => q G2 σ' H1 R' (E2.st.trans p') pr'.1
/-- a, b = x, y -/
def parF (i j : Nat) (f : AF) : SF := fun ρ => (f ρ).bind fun p => (frzAll p.1 p.2).bind fun q => match q.1 with
  | [d, e] => some (.nx ((q.2.set i (some (.fz d))).set j (some (.fz e))))
  | _ => none
theorem ds_par {i j : Nat} {x y : Str} {a b : Expr} {f : AF} {px py pt : Pos} {kt k2 pt2} (hc : X.calm = true) (hN : X.N.Nodup) (hi : X.N[i]? = some x) (hj : X.N[j]? = some y) (hij : i ≠ j)
    (hx : X.env.scope.names.lookup x = some .local) (hy : X.env.scope.names.lookup y = some .local) (ha : DA X [a, b] f) (hpi : pm i = false) (hpj : pm j = false)
    (hw : swappedStores [.Tuple [.Name x px, .Name y py] kt pt] (.Tuple [a, b] k2 pt2) X.env = pure (some [x, y]))
    (hs : swapsWithSole [.Tuple [.Name x px, .Name y py] kt pt] (.Tuple [a, b] k2 pt2) pos.line X.env = pure false := by rfl) :
    DS pm X (.Assign [.Tuple [.Name x px, .Name y py] kt pt] (.Tuple [a, b] k2 pt2) pos) (parF i j f) := by
  obtain ⟨t, p, s⟩ := ha
  refine ⟨_, ps_par hc hN hi hj hij hx hy p hw hs, fun G ρ σ H o D R e q => ?_⟩
  obtain ⟨⟨ss, ρ1⟩, e1, e⟩ := of_bind e
  obtain ⟨⟨ds, ρ2⟩, e2, e⟩ := of_bind e
  refine s G ρ σ H ss ρ1 _ R e1 fun vs G1 H1 R1 p1 a1 => ?_
  obtain ⟨G2, R2, p2, d2, _⟩ := frzAll_ok R1 p1 a1 e2
  match ds, d2, e with
  | [d, e'], .cons h1 (.cons h2 .nil), e =>
    cases e
    refine ⟨_, _, rfl, ?_⟩
    have R3 := (R2.setFz (i := i) (s := .fz d) rfl h1).setFz (i := j) (s := .fz e') rfl h2
    exact q G2 _ H1 R3 ((p2.trans (Stp.setFz (s := .fz d) rfl)).trans (Stp.setFz (s := .fz e') rfl)) fun l hl => (par_set hpj l hl).trans (par_set hpi l hl)

/-! ### loops -/
/-- the items ds are walked by J while G stands -/
def ItOk (K : PySem.W.Frag) (G : Hp) (J : It) (ds : List PyData) : Prop :=
  ∀ {g : TG} {tb : TS} {D : Ends} {σ : L2.St} {H : Hp} (Pv : Nat → Hp → L2.St → Hp → Prop), Sub G H → Pv 0 G σ H →
    (∀ i G1 σ H, Pv i G1 σ H → Sub G G1 ∧ Sub G1 H) →
    (∀ i d G1 σ H v G2 H2, ds[i]? = some d → Pv i G1 σ H → NewR K G1 H (.fz d) v G2 H2 → g v σ H2 fun σ3 H3 => tb { D with nx := fun σ H => ∃ G, Pv (i + 1) G σ H, ct := fun σ H => ∃ G, Pv (i + 1) G σ H, bk := D.nx } σ3 H3) →
    (∀ G1 σ H, Pv ds.length G1 σ H → D.nx σ H) →
    ∃ W : Nat → Nat → L2.St → Hp → Prop, (∃ m, W 0 m σ H) ∧ ∀ i m σ H, W i m σ H →
      (J.stop i H ∧ D.nx σ H) ∨ (J.go i H ∧ ∃ N : L2.St → Hp → Prop, (∀ σ' H', N σ' H' → ∃ m', m' < m ∧ W (i + 1) m' σ' H') ∧ ∀ x H', J.yld i H x H' → g x σ H' fun σ2 H2 => tb { D with nx := N, ct := N, bk := D.nx } σ2 H2)
/-- the same by what J tells of each turn -/
structure ItP (K : PySem.W.Frag) (G : Hp) (J : It) (ds : List PyData) : Prop where
  stop : ∀ H, Sub G H → J.stop ds.length H
  go : ∀ (i : Nat) H, Sub G H → i < ds.length → J.go i H
  yld : ∀ (i : Nat) (d : PyData) (H : Hp) (x : V) (H' G1 : Hp), Sub G G1 → Sub G1 H → ds[i]? = some d → J.yld i H x H' → ∃ G2, NewR K G1 H (.fz d) x G2 H'
theorem ItP.ok {K : PySem.W.Frag} {G : Hp} {J : It} {ds : List PyData} (it : ItP K G J ds) : ItOk K G J ds := by
  intro g tb D σ H Pv sg h0 hs ht hx
  refine ⟨fun i m σ H => m = ds.length - i ∧ i ≤ ds.length ∧ ∃ G1, Pv i G1 σ H, ⟨_, rfl, Nat.zero_le _, G, h0⟩, ?_⟩
  rintro i m σ H ⟨rfl, hi, G1, p⟩
  obtain ⟨s1, s2⟩ := hs i G1 σ H p
  by_cases hlt : i < ds.length
  · refine .inr ⟨it.go i H (s1.trans s2) hlt, fun σ H => ∃ G, Pv (i + 1) G σ H, fun σ' H' ⟨G', p'⟩ => ⟨ds.length - (i + 1), by omega, rfl, hlt, G', p'⟩, fun x H' y => ?_⟩
    obtain ⟨G2, N⟩ := it.yld i ds[i] H x H' G1 s1 s2 (List.getElem?_eq_getElem hlt) y
    exact ht i ds[i] G1 σ H x G2 H' (List.getElem?_eq_getElem hlt) p N
  · have e : i = ds.length := by omega
    subst e
    exact .inl ⟨it.stop H (s1.trans s2), hx G1 σ H p⟩
theorem itl_ok {K : PySem.W.Frag} {G : Hp} {a : Addr} {xs : List V} {ds : List PyData} (h : G a = some (.lst xs)) (hd : DqAll K G xs ds) : ItP K G (Itl K a) ds := by
  refine ⟨fun H s => ⟨xs, .of (s _ _ h), Nat.le_of_eq hd.len⟩, fun i H s hi => ⟨xs, xs[i]'(by rw [hd.len]; exact hi), .of (s _ _ h), List.getElem?_eq_getElem _⟩, fun i d H x H' G1 s1 s2 e y => ?_⟩
  obtain ⟨rfl, y⟩ := y
  obtain ⟨v, ev, r⟩ := hd.get e
  have := y xs (.of (s2 _ _ (s1 _ _ h)))
  rw [ev] at this
  cases this
  exact ⟨G1, .same s2 (dq_up s1 d r)⟩
theorem itt_ok {K : PySem.W.Frag} {G : Hp} {a : Addr} {xs : List V} {ds : List PyData} (h : SqT K G a xs) (hd : DqAll K G xs ds) : ItP K G (Itt K a) ds := by
  refine ⟨fun H s => ⟨xs, sqT_up s h, Nat.le_of_eq hd.len⟩, fun i H s hi => ⟨xs, xs[i]'(by rw [hd.len]; exact hi), sqT_up s h, List.getElem?_eq_getElem _⟩, fun i d H x H' G1 s1 s2 e y => ?_⟩
  obtain ⟨rfl, y⟩ := y
  obtain ⟨v, ev, r⟩ := hd.get e
  have := y xs (sqT_up (s1.trans s2) h)
  rw [ev] at this
  cases this
  exact ⟨G1, .same s2 (dq_up s1 d r)⟩
def rngD (lo : Int) (n : Nat) : List PyData := (List.range n).map fun (k : Nat) => PyData.int (lo + (k : Int))
theorem itr_ok {K : PySem.W.Frag} {G : Hp} {lo : Int} {n : Nat} : ItP K G (Itr lo n) (rngD lo n) := by
  have ln : (rngD lo n).length = n := by unfold rngD; rw [List.length_map, List.length_range]
  refine ⟨fun H s => Nat.le_of_eq ln.symm, fun i H s hi => by rw [ln] at hi; exact hi, fun i d H x H' G1 s1 s2 e y => ?_⟩
  obtain ⟨rfl, rfl⟩ := y
  have hi : i < n := by rw [← ln]; exact (List.getElem?_eq_some_iff.mp e).1
  unfold rngD at e
  rw [List.getElem?_map, List.getElem?_range hi] at e
  cases e
  exact ⟨G1, .same s2 (.int _)⟩
abbrev IF := PSt → Option (List PyData × PSt)
def DI (X : Cx) (tg iter : Expr) (f : IF) : Prop :=
  ∃ w, PI X tg iter w ∧ ∀ (G : Hp) (ρ : PSt) (σ : L2.St) (H : Hp) (ds : List PyData) (ρ' : PSt) (R : It → Hp → Prop), Rl X.K G ρ σ H → f ρ = some (ds, ρ') → (∀ J G' H', Rl X.K G' ρ' σ H' → Stp G ρ σ H G' ρ' σ H' → ItP X.K G' J ds → R J H') → w σ H R
/-- frozen, then its items -/
def seqI (f : EF) : IF := fun ρ => (f ρ).bind fun p => (S.frz p.2 p.1).bind fun q => match q.1 with
  | .list ds => some (ds, q.2)
  | _ => none
def tupI (f : EF) : IF := fun ρ => (f ρ).bind fun p => (S.frz p.2 p.1).bind fun q => match q.1 with
  | .tuple ds => some (ds, q.2)
  | _ => none
variable {tg : Expr}
theorem di_list {e : Expr} {f : EF} (h : DE X e f) : DI X tg e (seqI f) := by
  obtain ⟨t, p, s⟩ := h
  refine ⟨_, pi_list p, fun G ρ σ H ds ρ' Q R e q => ?_⟩
  obtain ⟨⟨s1, ρ1⟩, e1, e⟩ := of_bind e
  obtain ⟨⟨d, ρ2⟩, e2, e⟩ := of_bind e
  refine s G ρ σ H s1 ρ1 _ R e1 fun v G1 H1 E => ?_
  obtain ⟨G2, E2⟩ := frz_ok E e2
  have r := E2.res
  cases d with
  | list ds =>
    cases e
    cases (show Dq X.K G2 v (.list ds) from r) with
    | lst h1 h2 => exact ⟨_, rfl, ⟨_, .of (E2.rl.sub _ _ h1)⟩, q _ G2 H1 E2.rl E2.st (itl_ok h1 h2)⟩
  | _ => cases e
theorem di_tup {e : Expr} {f : EF} (h : DE X e f) : DI X tg e (tupI f) := by
  obtain ⟨t, p, s⟩ := h
  refine ⟨_, pi_tup p, fun G ρ σ H ds ρ' Q R e q => ?_⟩
  obtain ⟨⟨s1, ρ1⟩, e1, e⟩ := of_bind e
  obtain ⟨⟨d, ρ2⟩, e2, e⟩ := of_bind e
  refine s G ρ σ H s1 ρ1 _ R e1 fun v G1 H1 E => ?_
  obtain ⟨G2, E2⟩ := frz_ok E e2
  have r := E2.res
  cases d with
  | tuple ds =>
    cases e
    cases (show Dq X.K G2 v (.tuple ds) from r) with
    | tup h1 h2 => exact ⟨_, rfl, ⟨_, sqT_up E2.rl.sub h1⟩, q _ G2 H1 E2.rl E2.st (itt_ok h1 h2)⟩
  | _ => cases e
def smallI (j : Int) : Bool := decide (-(2 ^ 62) ≤ j) && decide (j < 2 ^ 62)
def rng1 (f : AF) : IF := fun ρ => (f ρ).bind fun p => match p.1 with
  | [.fz (.int j)] => if smallI j then some (rngD 0 j.toNat, p.2) else none
  | _ => none
def rng2 (f : AF) : IF := fun ρ => (f ρ).bind fun p => match p.1 with
  | [.fz (.int i), .fz (.int j)] => if smallI i && smallI j then some (rngD i (j - i).toNat, p.2) else none
  | _ => none
theorem di_range1 {a : Expr} {f : AF} {p : Pos} (hg : Gl X "range") (hm : X.mg "range" = none) (ha : DA X [a] f) (hs : starEach [a] X.env = [(false, eval a X.env)] := by rfl) : DI X tg (.Call (.Name "range" p) [a] [] pos) (rng1 f) := by
  obtain ⟨t, pa, s⟩ := ha
  refine ⟨_, pi_range1 hg hm pa hs, fun G ρ σ H ds ρ' Q R e q => ?_⟩
  obtain ⟨⟨ss, ρ1⟩, e1, e⟩ := of_bind e
  refine s G ρ σ H ss ρ1 _ R e1 fun vs G1 H1 R1 p1 a1 => ?_
  match ss, a1, e with
  | [.fz (.int j)], .cons h .nil, e =>
    by_cases c : smallI j = true
    · have e' : (if smallI j = true then some (rngD 0 j.toNat, ρ1) else none) = some (ds, ρ') := e
      rw [if_pos c] at e'
      cases e'
      cases (show Dq X.K G1 _ (.int j) from h)
      rw [smallI, Bool.and_eq_true] at c
      exact ⟨j, rfl, of_decide_eq_true c.1, of_decide_eq_true c.2, q _ G1 H1 R1 p1 itr_ok⟩
    · have e' : (if smallI j = true then some (rngD 0 j.toNat, ρ1) else none) = some (ds, ρ') := e
      rw [if_neg c] at e'
      cases e'
theorem di_range2 {a b : Expr} {f : AF} {p : Pos} (hg : Gl X "range") (hm : X.mg "range" = none) (ha : DA X [a, b] f) (hs : starEach [a, b] X.env = [(false, eval a X.env), (false, eval b X.env)] := by rfl) (hs2 : starEach [b] X.env = [(false, eval b X.env)] := by rfl) : DI X tg (.Call (.Name "range" p) [a, b] [] pos) (rng2 f) := by
  obtain ⟨t, pa, s⟩ := ha
  refine ⟨_, pi_range2 hg hm pa hs hs2, fun G ρ σ H ds ρ' Q R e q => ?_⟩
  obtain ⟨⟨ss, ρ1⟩, e1, e⟩ := of_bind e
  refine s G ρ σ H ss ρ1 _ R e1 fun vs G1 H1 R1 p1 a1 => ?_
  match ss, a1, e with
  | [.fz (.int i), .fz (.int j)], .cons h (.cons h2 .nil), e =>
    by_cases c : (smallI i && smallI j) = true
    · have e' : (if (smallI i && smallI j) = true then some (rngD i (j - i).toNat, ρ1) else none) = some (ds, ρ') := e
      rw [if_pos c] at e'
      cases e'
      cases (show Dq X.K G1 _ (.int i) from h)
      cases (show Dq X.K G1 _ (.int j) from h2)
      rw [smallI, smallI, Bool.and_eq_true, Bool.and_eq_true, Bool.and_eq_true] at c
      exact ⟨i, j, rfl, ⟨of_decide_eq_true c.1.1, of_decide_eq_true c.1.2, of_decide_eq_true c.2.1, of_decide_eq_true c.2.2⟩, q _ G1 H1 R1 p1 itr_ok⟩
    · have e' : (if (smallI i && smallI j) = true then some (rngD i (j - i).toNat, ρ1) else none) = some (ds, ρ') := e
      rw [if_neg c] at e'
      cases e'
def loopF (h : GF) (body : SF) : List PyData → SF
  | [], ρ => some (.nx ρ)
  | d :: ds, ρ => (h d ρ).bind fun ρ1 => (body ρ1).bind fun o => match o with
    | .nx ρ2 => loopF h body ds ρ2
    | .ct ρ2 => loopF h body ds ρ2
    | .bk ρ2 => some (.nx ρ2)
    | .rt s ρ2 => some (.rt s ρ2)
def forF (f : IF) (h : GF) (body : SF) : SF := fun ρ => (f ρ).bind fun p => loopF h body p.1 p.2
theorem ds_for {iter : Expr} {body : List Stmt} {f : IF} {h : GF} (hp : PassesOwn (model X.prog X.w) X.A X.env X.xe) (hc : X.calm = true) (hi : DI X tg iter f) (hg : DG pm X tg h) (hb : DB pm X body m)
    (hs : ∀ x, foldedSetIterable iter X.env x = pure x := by intro _; rfl) : DS pm X (.For tg iter body [] pos) (forF f h m) := by
  obtain ⟨w, pw, sw⟩ := hi
  obtain ⟨g, pg, sg⟩ := hg
  obtain ⟨tb, pb, sb⟩ := hb
  refine ⟨_, ps_for hp hc pw pg pb hs, fun G ρ σ H o D R e q => ?_⟩
  obtain ⟨⟨ds, ρ1⟩, e1, e⟩ := of_bind e
  refine sw G ρ σ H ds ρ1 _ R e1 fun J G1 H1 R1 p1 it => ?_
  refine it.ok (fun i G2 σ2 H2 => ∃ ρ2, Rl X.K G2 ρ2 σ2 H2 ∧ Stp G ρ σ H G2 ρ2 σ2 H2 ∧ Par pm σ σ2 ∧ Sub G1 G2 ∧ loopF h m (ds.drop i) ρ2 = some o) R1.sub ⟨ρ1, R1, p1, fun _ _ => rfl, Sub.rfl, e⟩
    (fun i G2 σ2 H2 ⟨ρ2, R2, _, _, s2, _⟩ => ⟨s2, R2.sub⟩) (fun i d G2 σ2 H2 v G3 H3 ed ⟨ρ2, R2, p2, pr2, s2, e2⟩ N => ?_) (fun G2 σ2 H2 ⟨ρ2, R2, p2, pr2, s2, e2⟩ => ?_)
  · have hi : i < ds.length := (List.getElem?_eq_some_iff.mp ed).1
    rw [List.drop_eq_getElem_cons hi] at e2
    have ed' : ds[i] = d := (List.getElem?_eq_some_iff.mp ed).2
    rw [ed'] at e2
    obtain ⟨ρ4, e4, e2⟩ := of_bind e2
    obtain ⟨o5, e5, e2⟩ := of_bind e2
    have R3 := R2.new N.sg N.sh N.sub N.nw
    have p3 := p2.trans (Stp.new (ρ := ρ2) (σ := σ2) N.sg N.sh N.nw)
    refine sg v d G3 ρ2 σ2 H3 ρ4 _ R3 N.res e4 fun σ4 R4 p4 ⟨pr4, _⟩ => ?_
    have p5 := p3.trans p4
    have pr5 : Par pm σ σ4 := fun j hj => (pr4 j hj).trans (pr2 j hj)
    refine sb G3 ρ4 σ4 H3 o5 _ R4 e5 ?_
    have s3 : Sub G1 G3 := s2.trans N.sg
    cases o5 with
    | nx ρ6 => exact fun G6 σ6 H6 R6 p6 pr6 => ⟨G6, ρ6, R6, p5.trans p6, fun j hj => (pr6 j hj).trans (pr5 j hj), s3.trans p6.sub, e2⟩
    | ct ρ6 => exact fun G6 σ6 H6 R6 p6 pr6 => ⟨G6, ρ6, R6, p5.trans p6, fun j hj => (pr6 j hj).trans (pr5 j hj), s3.trans p6.sub, e2⟩
    | bk ρ6 =>
      cases e2
      exact fun G6 σ6 H6 R6 p6 pr6 => q G6 σ6 H6 R6 (p5.trans p6) fun j hj => (pr6 j hj).trans (pr5 j hj)
    | rt s ρ6 =>
      cases e2
      exact fun v' G6 σ6 H6 R6 p6 pr6 r6 => q v' G6 σ6 H6 R6 (p5.trans p6) (fun j hj => (pr6 j hj).trans (pr5 j hj)) (r6.back fun _ n => p5.none_back n)
  · rw [List.drop_length] at e2
    cases e2
    exact q G2 σ2 H2 R2 p2 pr2
def whF (c : TF) (body : SF) : Nat → SF
  | 0, _ => none
  | n + 1, ρ => (c ρ).bind fun p => if p.1 then (body p.2).bind fun o => match o with
    | .nx ρ2 => whF c body n ρ2
    | .ct ρ2 => whF c body n ρ2
    | .bk ρ2 => some (.nx ρ2)
    | .rt s ρ2 => some (.rt s ρ2) else some (.nx p.2)
theorem ds_while {c : Expr} {body : List Stmt} {fc : TF} (n : Nat) (hp : PassesOwn (model X.prog X.w) X.A X.env X.xe) (hc : DT X c fc) (hb : DB pm X body m) : DS pm X (.While c body [] pos) (whF fc m n) := by
  obtain ⟨tc, pc, sc⟩ := hc
  obtain ⟨tb, pb, sb⟩ := hb
  refine ⟨_, ps_while hp pc pb, fun G ρ σ H o D R e q => ?_⟩
  refine ⟨fun k σ2 H2 => ∃ G2 ρ2, Rl X.K G2 ρ2 σ2 H2 ∧ Stp G ρ σ H G2 ρ2 σ2 H2 ∧ Par pm σ σ2 ∧ whF fc m k ρ2 = some o, ⟨n, G, ρ, R, Stp.rfl, fun _ _ => rfl, e⟩, ?_⟩
  rintro k σ2 H2 ⟨G2, ρ2, R2, p2, pr2, e2⟩
  cases k with
  | zero => cases e2
  | succ k =>
    obtain ⟨⟨b, ρ3⟩, e3, e2⟩ := of_bind e2
    refine sc G2 ρ2 σ2 H2 b ρ3 _ R2 e3 fun G3 H3 R3 p3 => ?_
    have p4 := p2.trans p3
    cases b with
    | false =>
      cases e2
      exact q G3 σ2 H3 R3 p4 pr2
    | true =>
      obtain ⟨o5, e5, e2⟩ := of_bind e2
      refine ⟨fun σ' H' => ∃ G' ρ', Rl X.K G' ρ' σ' H' ∧ Stp G ρ σ H G' ρ' σ' H' ∧ Par pm σ σ' ∧ whF fc m k ρ' = some o, fun σ' H' h => ⟨k, Nat.lt_succ_self k, h⟩, ?_⟩
      refine sb G3 ρ3 σ2 H3 o5 _ R3 e5 ?_
      cases o5 with
      | nx ρ6 => exact fun G6 σ6 H6 R6 p6 pr6 => ⟨G6, ρ6, R6, p4.trans p6, fun j hj => (pr6 j hj).trans (pr2 j hj), e2⟩
      | ct ρ6 => exact fun G6 σ6 H6 R6 p6 pr6 => ⟨G6, ρ6, R6, p4.trans p6, fun j hj => (pr6 j hj).trans (pr2 j hj), e2⟩
      | bk ρ6 =>
        cases e2
        exact fun G6 σ6 H6 R6 p6 pr6 => q G6 σ6 H6 R6 (p4.trans p6) fun j hj => (pr6 j hj).trans (pr2 j hj)
      | rt s ρ6 =>
        cases e2
        exact fun v' G6 σ6 H6 R6 p6 pr6 r6 => q v' G6 σ6 H6 R6 (p4.trans p6) (fun j hj => (pr6 j hj).trans (pr2 j hj)) (r6.back fun _ n => p4.none_back n)
end
end DL

/-! D5: defs and their calls. -/
namespace DL
open L2 PySem PySem.Spec PyProof.Rows

/-! ### argument lists as states -/
abbrev ags (l : List S) : PSt := l.map some
abbrev vls (l : List V) : L2.St := l.map some
theorem get_ags {l : List S} {i : Nat} {s : S} : (ags l)[i]? = some (some s) ↔ l[i]? = some s := by
  rw [List.getElem?_map]
  cases l[i]? <;> simp
theorem get_vls {l : List V} {i : Nat} {v : V} : (vls l)[i]? = some (some v) ↔ l[i]? = some v := by
  rw [List.getElem?_map]
  cases l[i]? <;> simp
/-- only what md marks is an own object -/
def okM : List Bool → List S → Bool
  | _, [] => true
  | [], s :: ss => !s.own && okM [] ss
  | b :: ms, s :: ss => (b || !s.own) && okM ms ss
theorem okM_at : ∀ {md : List Bool} {ss : List S} {i : Nat} {s : S}, okM md ss = true → ss[i]? = some s → s.own = true → md[i]? = some true
  | _, [], _, _, _, e, _ => by simp at e
  | [], s :: ss, 0, _, h, e, o => by
    cases e
    rw [okM, o] at h
    cases h
  | [], s :: ss, i + 1, _, h, e, o => by
    rw [okM, Bool.and_eq_true] at h
    have := okM_at (md := []) (i := i) h.2 e o
    cases this
  | b :: ms, s :: ss, 0, _, h, e, o => by
    cases e
    rw [okM, o, Bool.and_eq_true] at h
    cases b with
    | true => rfl
    | false => cases h.1
  | b :: ms, s :: ss, i + 1, _, h, e, o => by
    rw [okM, Bool.and_eq_true] at h
    exact okM_at (md := ms) (i := i) h.2 e o
def outsF : List Bool → List S → PSt → Option (List S)
  | [], as, _ => some as
  | _ :: _, [], _ => some []
  | true :: ms, _ :: as, some s :: ρ => (outsF ms as ρ).map fun l => s :: l
  | false :: ms, a :: as, _ :: ρ => (outsF ms as ρ).map fun l => a :: l
  | _, _, _ => none
theorem outsF_at : ∀ {md : List Bool} {as os : List S} {ρ : PSt} {i : Nat} {s : S}, outsF md as ρ = some os → os[i]? = some s → (md[i]? = some true ∧ ρ[i]? = some (some s)) ∨ (md[i]? ≠ some true ∧ as[i]? = some s)
  | [], as, _, _, _, _, e, e2 => by
    cases e
    exact .inr ⟨by simp, e2⟩
  | _ :: _, [], _, _, _, _, e, e2 => by
    rw [outsF] at e
    cases e
    simp at e2
  | true :: ms, a :: as, _, some x :: ρ, i, s, e, e2 => by
    obtain ⟨l, e1, e3⟩ := of_map e
    subst e3
    cases i with
    | zero => cases e2; exact .inl ⟨rfl, rfl⟩
    | succ i => exact outsF_at (md := ms) (i := i) e1 e2
  | false :: ms, a :: as, _, x :: ρ, i, s, e, e2 => by
    obtain ⟨l, e1, e3⟩ := of_map e
    subst e3
    cases i with
    | zero => cases e2; exact .inr ⟨by simp, rfl⟩
    | succ i => exact outsF_at (md := ms) (i := i) e1 e2
  | true :: ms, a :: as, _, none :: ρ, i, s, e, e2 => by cases e
  | true :: ms, a :: as, _, [], i, s, e, e2 => by cases e
  | false :: ms, a :: as, _, [], i, s, e, e2 => by cases e
theorem outsF_len : ∀ {md : List Bool} {as os : List S} {ρ : PSt}, outsF md as ρ = some os → os.length = as.length
  | [], as, _, _, e => by cases e; rfl
  | _ :: _, [], _, _, e => by rw [outsF] at e; cases e; rfl
  | true :: ms, a :: as, _, some x :: ρ, e => by
    obtain ⟨l, e1, e3⟩ := of_map e
    subst e3
    exact congrArg Nat.succ (outsF_len e1)
  | false :: ms, a :: as, _, x :: ρ, e => by
    obtain ⟨l, e1, e3⟩ := of_map e
    subst e3
    exact congrArg Nat.succ (outsF_len e1)
  | true :: ms, a :: as, _, none :: ρ, e => by cases e
  | true :: ms, a :: as, _, [], e => by cases e
  | false :: ms, a :: as, _, [], e => by cases e

/-! ### what a def promises -/
abbrev FF := List S → Option (S × List S)
section
variable (P : Program) (w : World) (K : PySem.W.Frag) (mg : Str → Option Value) (base : Heap)
def Post (G : Hp) (sargs : List S) (vs : List V) (H : Hp) (r : S) (outs : List S) (Q : VK) : Prop :=
  ∀ v G' H', Rl K G' (ags outs) (vls vs) H' → Stp G (ags sargs) (vls vs) H G' (ags outs) (vls vs) H' → RetR K G' (ags outs) (vls vs) H H' r v → Q v H'
/-- by its parameters -/
structure DFb (k : Nat) (f : Addr) (fd : FuncData) (ps : List Str) (md : List Bool) (g : FF) : Prop where
  run : ∀ (A : Around) (outer : List Env) (s : Shared) (H : Hp) (args : Args) (us : List Value) (vs : List V) (sargs : List S) (r : S) (outs : List S) (G : Hp) (Q : VK), Room k A → A.guards = some [] → Env0 P w K mg base A outer s H →
    BindsTo s fd args (ps.zip us) → Vals vs us → Rl K G (ags sargs) (vls vs) H → okM md sargs = true → g sargs = some (r, outs) → Post K G sargs vs H r outs Q →
    codeAny (model P w) A (.call (.ref f) args) (CR CX0 outer P w H s Q E0) s
/-- by a call's form: positional values, keywords named ks -/
structure DFn (k : Nat) (f : Addr) (ks : List Str) (md : List Bool) (g : FF) : Prop where
  run : ∀ (A : Around) (outer : List Env) (s : Shared) (H : Hp) (us ws : List Value) (vs zs : List V) (sargs : List S) (r : S) (outs : List S) (G : Hp) (Q : VK), Room k A → A.guards = some [] → Env0 P w K mg base A outer s H →
    Vals vs us → Vals zs ws → ws.length = ks.length → Rl K G (ags sargs) (vls (vs ++ zs)) H → okM md sargs = true → g sargs = some (r, outs) → Post K G sargs (vs ++ zs) H r outs Q →
    codeAny (model P w) A (.call (.ref f) ⟨us, ks.zip ws⟩) (CR CX0 outer P w H s Q E0) s
  kp : PySem.W.keepIn K (.ref f) = true
end

/-- the entry: the parameters' values, then names without one -/
def entS (n : Nat) (as : List S) : PSt := ags as ++ List.replicate (n - as.length) none
def fnF (np n : Nat) (md : List Bool) (m : SF) : FF := fun as => if as.length = np then (m (entS n as)).bind fun o => match o with
  | .rt s ρ => (outsF md as ρ).map fun l => (s, l)
  | .nx ρ => (outsF md as ρ).map fun l => (.fz .none, l)
  | _ => none else none
def pmOf (md : List Bool) : Nat → Bool := fun i => md.getD i false
theorem app_none {α : Type} {l : List α} {m i : Nat} {x : α} : (l.map some ++ List.replicate m none)[i]? = some (some x) ↔ l[i]? = some x := by
  by_cases h : i < l.length
  · rw [List.getElem?_append_left (by rw [List.length_map]; exact h), List.getElem?_map]
    cases l[i]? <;> simp
  · rw [List.getElem?_append_right (by rw [List.length_map]; omega), List.getElem?_replicate, List.getElem?_eq_none (l := l) (by omega)]
    split <;> simp
section
variable {P : Program} {w : World} {K : PySem.W.Frag} {mg : Str → Option Value} {base : Heap}
theorem own_ent {n m : Nat} {as : List S} {vs : List V} {a : Addr} : Own (entS n as) (vls vs ++ List.replicate m none) a ↔ Own (ags as) (vls vs) a := by
  constructor
  · rintro ⟨i, ⟨s, e, o⟩, e2⟩
    exact ⟨i, ⟨s, get_ags.mpr (app_none.mp e), o⟩, get_vls.mpr (app_none.mp e2)⟩
  · rintro ⟨i, ⟨s, e, o⟩, e2⟩
    exact ⟨i, ⟨s, app_none.mpr (get_ags.mp e), o⟩, app_none.mpr (get_vls.mp e2)⟩
theorem rl_ent {G H : Hp} {n m : Nat} {as : List S} {vs : List V} (R : Rl K G (ags as) (vls vs) H) (hm : m = n - as.length) : Rl K G (entS n as) (vls vs ++ List.replicate m none) H := by
  refine ⟨R.sub, fun i s e => ?_, fun i j a ⟨s, e, o⟩ ⟨s', e', o'⟩ e1 e2 => ?_, ?_⟩
  · obtain ⟨v, e1, sr⟩ := R.slot i s (get_ags.mpr (app_none.mp e))
    exact ⟨v, app_none.mpr (get_vls.mp e1), sr⟩
  · exact R.dist i j a ⟨s, get_ags.mpr (app_none.mp e), o⟩ ⟨s', get_ags.mpr (app_none.mp e'), o'⟩ (get_vls.mpr (app_none.mp e1)) (get_vls.mpr (app_none.mp e2))
  · have l := R.len
    unfold entS
    rw [List.length_append, List.length_append, List.length_replicate, List.length_replicate, l, hm]
/-- the end of a body gives the promise's end -/
theorem post_of {G H : Hp} {n m : Nat} {md : List Bool} {as os : List S} {vs : List V} {r : S} {ρ' : PSt} {Q : VK} (hok : okM md as = true) (R0 : Rl K G (ags as) (vls vs) H) (post : Post K G as vs H r os Q) (ho : outsF md as ρ' = some os)
    {v : V} {G' H' : Hp} {σ' : L2.St} (R' : Rl K G' ρ' σ' H') (p : Stp G (entS n as) (vls vs ++ List.replicate m none) H G' ρ' σ' H') (pr : Par (pmOf md) (vls vs ++ List.replicate m none) σ') (rr : RetR K G' ρ' σ' H H' r v) : Q v H' := by
  have l0 : as.length = vs.length := by have := R0.len; rwa [List.length_map, List.length_map] at this
  have lo := outsF_len ho
  have mark : ∀ {i : Nat}, md[i]? = some true → i < vs.length → σ'[i]? = (vls vs)[i]? := fun {i} hm hi => by
    rw [pr i (by unfold pmOf; rw [List.getD_eq_getElem?_getD, hm]; rfl), List.getElem?_append_left (by rw [List.length_map]; exact hi)]
  have lt : ∀ {i : Nat} {s : S}, os[i]? = some s → i < vs.length := fun {i s} e => by
    have := (List.getElem?_eq_some_iff.mp e).1
    omega
  have owns : ∀ {i : Nat}, OwnAt (ags os) i → OwnAt ρ' i ∧ σ'[i]? = (vls vs)[i]? := fun {i} ⟨s, e, o⟩ => by
    have e := get_ags.mp e
    rcases outsF_at ho e with ⟨h1, h2⟩ | ⟨h1, h2⟩
    · exact ⟨⟨s, h2, o⟩, mark h1 (lt e)⟩
    · exact absurd (okM_at hok h2 o) h1
  have ownA : ∀ {a : Addr}, Own (ags os) (vls vs) a → Own ρ' σ' a := fun {a} ⟨i, h, e⟩ => by
    obtain ⟨h1, h2⟩ := owns h
    exact ⟨i, h1, h2.trans e⟩
  have own0 : ∀ {a : Addr}, Own (entS n as) (vls vs ++ List.replicate m none) a → Own (ags as) (vls vs) a := fun h => own_ent.mp h
  refine post v G' H' ⟨R'.sub, fun i s e => ?_, fun i j a hi hj e1 e2 => ?_, ?_⟩ ⟨p.sub, fun a o e => ?_, fun a o e h => ?_, fun a h => ?_, p.th⟩ ?_
  · have e := get_ags.mp e
    rcases outsF_at ho e with ⟨h1, h2⟩ | ⟨h1, h2⟩
    · obtain ⟨x, e1, sr⟩ := R'.slot i s h2
      exact ⟨x, (mark h1 (lt e)).symm.trans e1, sr⟩
    · obtain ⟨x, e1, sr⟩ := R0.slot i s (get_ags.mpr h2)
      exact ⟨x, e1, sr.later p.sub fun o => absurd (okM_at hok h2 o) h1⟩
  · obtain ⟨o1, q1⟩ := owns hi
    obtain ⟨o2, q2⟩ := owns hj
    exact R'.dist i j a o1 o2 (q1.trans e1) (q2.trans e2)
  · rw [List.length_map, List.length_map]
    omega
  · rcases p.nw a o e with h | h | h
    · exact .inl h
    · exact .inr (.inl h)
    · exact .inr (.inr (own0 h))
  · exact p.keep a o e fun z => h (own0 z)
  · rcases p.own a (ownA h) with z | z
    · exact .inl (own0 z)
    · exact .inr z
  · cases r with
    | fz d => exact rr
    | ol d => exact ⟨rr.1, fun a e => ⟨(rr.2 a e).1, fun z => (rr.2 a e).2 (ownA z)⟩⟩
    | od d => exact ⟨rr.1, fun a e => ⟨(rr.2 a e).1, fun z => (rr.2 a e).2 (ownA z)⟩⟩
    | al i => exact rr
    | sc i => exact rr

/-- the context of a def's body that lets nothing out -/
abbrev cxB (P : Program) (w : World) (K : PySem.W.Frag) (mg : Str → Option Value) (base : Heap) (N : List Str) (qual : Str) (sc : Scope) (f : Addr) (cd : Value) (A : Around) (outer : List Env) (s : Shared) (H : Hp) : Cx :=
  (cxOf CX0 P w K mg base N qual sc f cd A outer s H E0).nox
/-- a def's body, from where its arguments are bound -/
theorem body_ok {k : Nat} {f : Addr} {name qual : Str} {params : Arguments} {body : List Stmt} {scope : Scope} {dV kV doc pm cdv ct : Value} {an : Option Addr} {N ps : List Str} {md : List Bool} {m : SF} (sc : FnScope N ps scope)
    (hb : ∀ (A : Around) (outer : List Env) (s : Shared) (H : Hp), Room k (A.deeper (envOfC qual scope s.heap.objs.size f cdv)) → (A.deeper (envOfC qual scope s.heap.objs.size f cdv)).guards = some [] →
      DB (pmOf md) (cxB P w K mg base N qual scope f cdv A outer s H) body m)
    {A : Around} {outer : List Env} {s : Shared} {H : Hp} {us : List Value} {vs : List V} {as : List S} {r : S} {os : List S} {G : Hp} {Q : VK} {Rr : Result → Shared → Prop} {Ex : Value → Shared → Prop} (hr : Room (k + 1) A) (hgd : A.guards = some []) (e0 : Env0 P w K mg base A outer s H)
    (rv : Vals vs us) (R : Rl K G (ags as) (vls vs) H) (hok : okM md as = true) (hg : fnF ps.length N.length md m as = some (r, os)) (post : Post K G as vs H r os Q) (hR : ∀ u s', CE outer P w H s Q u s' → Rr (.ok (.ret u)) s') :
    wpAny (model P w) A.in1 (newFunctionEnv (PySem.W.fnOf name qual params body scope dV kV doc pm an cdv ct).scope (PySem.W.fnOf name qual params body scope dV kV doc pm an cdv ct).globals (PySem.W.fnOf name qual params body scope dV kV doc pm an cdv ct).closure (ps.zip us)
      ((PySem.W.fnOf name qual params body scope dV kV doc pm an cdv ct).qualname ++ ".<locals>.") (some f) (PySem.W.fnOf name qual params body scope dV kV doc pm an cdv ct).code none (PySem.W.fnOf name qual params body scope dV kV doc pm an cdv ct).builtins)
      (fun env s2 => s2.heap.NoLimit ∧ codeAny (model P w) A (.func body env) Rr s2) Ex s := by
  have l0 : as.length = vs.length := by have := R.len; rwa [List.length_map, List.length_map] at this
  unfold fnF at hg
  by_cases hl : as.length = ps.length
  case neg => rw [if_neg hl] at hg; cases hg
  rw [if_pos hl] at hg
  obtain ⟨o, em, hg⟩ := of_bind hg
  have nolim : s.heap.NoLimit := e0.mod.nolimit.keeps fun b o e => (e0.bs b o e).1
  have kinds : ∀ y ∈ ps.zip us, scope.names.lookup y.1 = some .local ∨ (scope.names.lookup y.1 = some .cell ∧ ((cellsFrom (s.heap.objs.size + 1) scope.names []).lookup y.1).isSome = true) := fun y hy =>
    (sc.par y.1 (List.of_mem_zip hy).1).elim .inl fun q => .inr ⟨q, PySem.W.cellsFrom_some _ _ _ (.inl q)⟩
  refine wpAny_newFunctionEnv_cells sc.kind kinds fun env he s1 x => ?_
  subst he
  refine ⟨nolim.keeps x.toInCall.keep, codeAny_func ?_⟩
  obtain ⟨t, pt, st⟩ := hb A outer s H (hr.deeper _) hgd
  have I : Inv (cxOf CX0 P w K mg base N qual scope f cdv A outer s H E0) [] (L2.start N vs) H s1 := inv_start sc hr.hd e0 (by rw [← l0]; exact hl) rv x
  have hst : L2.start N vs = vls vs ++ List.replicate (N.length - vs.length) none := rfl
  have R1 : Rl K G (entS N.length as) (L2.start N vs) H := by rw [hst, ← l0]; exact rl_ent R rfl
  have go : t { nx := fun _ H' => Q .non H', rt := Q } (L2.start N vs) H := by
    refine st G (entS N.length as) (L2.start N vs) H o _ R1 em ?_
    rw [hst] at R1 ⊢
    cases o with
    | rt s' ρ' =>
      obtain ⟨l, e1, e2⟩ := of_map hg
      cases e2
      exact fun v G' σ' H' R' p pr rr => post_of (n := N.length) hok R post e1 R' p pr rr
    | nx ρ' =>
      obtain ⟨l, e1, e2⟩ := of_map hg
      cases e2
      exact fun G' σ' H' R' p pr => post_of (n := N.length) (r := .fz .none) hok R post e1 R' p pr .non
    | bk ρ' => cases hg
    | ct ρ' => cases hg
  refine wpAny_mono (pt.nox.run [] s1 (L2.start N vs) H _ I go) (fun fl s' hs => ?_) fun e s' hs => wpAny_mono hs (fun _ _ z => z.elim) fun _ _ z => z.elim
  have fin : ∀ {σ' : L2.St} {H' : Hp} {v : V} {u : Value}, Inv (cxOf CX0 P w K mg base N qual scope f cdv A outer s H E0) [] σ' H' s' → RelV v u → Q v H' → CE outer P w H s Q u s' := fun J rv q => ⟨_, _, J.os, J.bare, J.base, J.hok, rv, q⟩
  cases fl with
  | ret u => obtain ⟨v, σ', H', J, rv, q⟩ := hs; exact hR _ _ (fin J rv q)
  | next => obtain ⟨σ', H', J, q⟩ := hs; exact hR _ _ (fin (v := .non) (u := .none) J rfl q)
  | brk => obtain ⟨_, _, _, q⟩ := hs; exact q.elim
  | cont => obtain ⟨_, _, _, q⟩ := hs; exact q.elim
/-- THE RULE for a def: its body as a function of states -/
theorem dfb_of {k : Nat} {f : Addr} {name qual : Str} {params : Arguments} {body : List Stmt} {scope : Scope} {dV kV doc pm cdv ct oc : Value} {an od : Option Addr} {osl : Array (Option Value)} {N ps : List Str} {md : List Bool} {m : SF}
    (lk : K.lookup f = some ⟨oc, od, .func (PySem.W.fnOf name qual params body scope dV kV doc pm an cdv ct), osl⟩) (hcd : PySem.W.codeIn K cdv qual = true) (sc : FnScope N ps scope)
    (hb : ∀ (A : Around) (outer : List Env) (s : Shared) (H : Hp), Room k (A.deeper (envOfC qual scope s.heap.objs.size f cdv)) → (A.deeper (envOfC qual scope s.heap.objs.size f cdv)).guards = some [] →
      DB (pmOf md) (cxB P w K mg base N qual scope f cdv A outer s H) body m) :
    DFb P w K mg base (k + 1) f (PySem.W.fnOf name qual params body scope dV kV doc pm an cdv ct) ps md (fnF ps.length N.length md m) := by
  refine ⟨fun A outer s H args us vs as r os G Q hr hgd e0 hbind rv R hok hg post => ?_⟩
  have kin : K.In s.heap := e0.mod.kin.keeps fun b o e => (e0.bs b o e).1
  exact codeAny_call_function hr.depth (kin _ _ lk) rfl sc.co sc.gen rfl (PySem.W.codeRec_of kin hcd) (hbind _ _ _ _ (body_ok sc hb hr hgd e0 rv R hok hg post fun _ _ h => h))

/-- def f(*v): the arguments, frozen, as one tuple -/
def starF (g : FF) : FF := fun as => (peekAll [] as).bind fun ds => if okN ds.length then (g [.fz (.tuple ds)]).map fun r => (r.1, as) else none
theorem paired_of {G H : Hp} {as : List S} {vs : List V} (R : Rl K G (ags as) (vls vs) H) : Paired (SlotR K G H) as vs := by
  have l : as.length = vs.length := by have := R.len; rwa [List.length_map, List.length_map] at this
  have at' : ∀ (i : Nat) s v, as[i]? = some s → vs[i]? = some v → SlotR K G H s v := fun i s v e1 e2 => by
    obtain ⟨v', e3, sr⟩ := R.slot i s (get_ags.mpr e1)
    rw [get_vls.mpr e2] at e3
    cases e3
    exact sr
  clear R
  induction as generalizing vs with
  | nil => cases vs with
    | nil => exact .nil
    | cons v vs => cases l
  | cons a as ih => cases vs with
    | nil => cases l
    | cons v vs => exact .cons (at' 0 a v rfl rfl) (ih (Nat.succ.inj l) fun i => at' (i + 1))
theorem rl_of {G H : Hp} {as : List S} {vs : List V} (sub : Sub G H) (h : Paired (SlotR K G H) as vs) (no : ∀ s ∈ as, s.own = false) : Rl K G (ags as) (vls vs) H := by
  refine ⟨sub, fun i s e => ?_, fun i j a ⟨s, e, o⟩ _ _ _ => ?_, by rw [List.length_map, List.length_map]; exact Paired.length h⟩
  · have e := get_ags.mp e
    have go : ∀ {as : List S} {vs : List V} {i : Nat}, Paired (SlotR K G H) as vs → as[i]? = some s → ∃ v, vs[i]? = some v ∧ SlotR K G H s v := by
      intro as vs i h
      induction h generalizing i with
      | nil => intro e; simp at e
      | cons a b ih => intro e; cases i with
        | zero => cases e; exact ⟨_, rfl, a⟩
        | succ i => exact ih e
    obtain ⟨v, e1, sr⟩ := go h e
    exact ⟨v, get_vls.mpr e1, sr⟩
  · have := no s (List.mem_of_getElem? (get_ags.mp e))
    rw [this] at o
    cases o
theorem no_own {as : List S} {vs : List V} (no : ∀ s ∈ as, s.own = false) {a : Addr} : ¬ Own (ags as) (vls vs) a := fun ⟨i, ⟨s, e, o⟩, _⟩ => by
  have := no s (List.mem_of_getElem? (get_ags.mp e))
  rw [this] at o
  cases o
theorem okM_no : ∀ {as : List S}, okM [] as = true → ∀ s ∈ as, s.own = false
  | [], _, _, h => by cases h
  | a :: as, h, s, hs => by
    have h' : (!a.own && okM [] as) = true := h
    rw [Bool.and_eq_true] at h'
    rcases List.mem_cons.mp hs with e | hs
    · subst e; simpa using h'.1
    · exact okM_no h'.2 s hs
theorem no_okM : ∀ {as : List S}, (∀ s ∈ as, s.own = false) → okM [] as = true
  | [], _ => rfl
  | a :: as, h => by
    show (!a.own && okM [] as) = true
    rw [h a (List.mem_cons_self ..), no_okM fun s hs => h s (List.mem_cons_of_mem _ hs)]
    rfl
/-- frozen arguments handed on in another form: the caller's end from the callee's -/
theorem post_fz {G H G2 H2 : Hp} {as as2 outs2 : List S} {vs vs2 : List V} {r : S} {Q : VK} (no : ∀ s ∈ as, s.own = false) (no2 : ∀ s ∈ as2, s.own = false) (R : Rl K G (ags as) (vls vs) H) (sg : Sub G G2) (sh : Sub H H2)
    (nw : ∀ (a : Addr) (o : HO), G2 a = some o → G a = some o ∨ H a = none) (post : Post K G as vs H r as Q) : Post K G2 as2 vs2 H2 r outs2 Q := by
  intro v G' H' R' p' rr
  have nb : ∀ a, H2 a = none → H a = none := fun a n => none_back sh n
  refine post v G' H' (rl_of R'.sub ?_ no) ⟨sg.trans p'.sub, fun a o e => ?_, fun a o e _ => p'.keep a o (sh a o e) (no_own no2), fun a h => absurd h (no_own no), fun a h => p'.th a ?_⟩ ?_
  · have h := paired_of R
    have go : ∀ {as : List S} {vs : List V}, Paired (SlotR K G H) as vs → (∀ s ∈ as, s.own = false) → Paired (SlotR K G' H') as vs := by
      intro as vs h no
      induction h with
      | nil => exact .nil
      | cons a b ih =>
        refine .cons (a.later (sg.trans p'.sub) fun o => ?_) (ih fun s hs => no s (List.mem_cons_of_mem _ hs))
        rw [no _ (List.mem_cons_self ..)] at o
        cases o
    exact go h no
  · rcases p'.nw a o e with z | z | z
    · exact (nw a o z).elim .inl fun z => .inr (.inl z)
    · exact .inr (.inl (nb a z))
    · exact absurd z (no_own no2)
  · cases q : H a with
    | none => exact absurd q h
    | some o => rw [sh a o q]; exact fun z => nomatch z
  · cases r with
    | fz d => exact rr
    | ol d => exact ⟨rr.1, fun a e => ⟨nb a (rr.2 a e).1, no_own no⟩⟩
    | od d => exact ⟨rr.1, fun a e => ⟨nb a (rr.2 a e).1, no_own no⟩⟩
    | al i => exact rr
    | sc i => exact rr
theorem peekAll_fz {G H : Hp} : ∀ {as : List S} {vs : List V} {ds : List PyData}, Paired (SlotR K G H) as vs → (∀ s ∈ as, s.own = false) → peekAll [] as = some ds → DqAll K G vs ds
  | [], _, _, .nil, _, e => by cases e; exact .nil
  | s :: as, _, _, .cons a b, no, e => by
    obtain ⟨d, e1, e⟩ := of_bind e
    obtain ⟨ds, e2, e⟩ := of_map e
    cases e
    have n1 := no s (List.mem_cons_self ..)
    cases s with
    | fz d' => cases e1; exact .cons a (peekAll_fz b (fun s hs => no s (List.mem_cons_of_mem _ hs)) e2)
    | ol _ => cases n1
    | od _ => cases n1
    | al _ => exact a.elim
    | sc _ => cases e1
theorem dfn_star {k : Nat} {f : Addr} {name qual : Str} {params : Arguments} {body : List Stmt} {scope : Scope} {dV kV doc pm cdv ct oc : Value} {an od : Option Addr} {osl : Array (Option Value)} {N : List Str} {pv : Str} {m : SF}
    (lk : K.lookup f = some ⟨oc, od, .func (PySem.W.fnOf name qual params body scope dV kV doc pm an cdv ct), osl⟩) (hcd : PySem.W.codeIn K cdv qual = true) (sc : FnScope N [pv] scope)
    (hbind : ∀ us : List Value, bindArgs (PySem.W.fnOf name qual params body scope dV kV doc pm an cdv ct) ⟨us, []⟩ = (newTuple us >>= fun t => pure [(pv, t)])) (kp : PySem.W.keepIn K (.ref f) = true)
    (hb : ∀ (A : Around) (outer : List Env) (s : Shared) (H : Hp), Room k (A.deeper (envOfC qual scope s.heap.objs.size f cdv)) → (A.deeper (envOfC qual scope s.heap.objs.size f cdv)).guards = some [] →
      DB (pmOf []) (cxB P w K mg base N qual scope f cdv A outer s H) body m) :
    DFn P w K mg base (k + 1) f [] [] (starF (fnF 1 N.length [] m)) := by
  refine ⟨fun A outer s H us ws vs zs as r os G Q hr hgd e0 rv rz lz R hok hg post => ?_, kp⟩
  have ez : ws = [] := List.eq_nil_of_length_eq_zero lz
  subst ez
  cases rz
  rw [List.append_nil] at R post
  have no := okM_no hok
  obtain ⟨ds, e1, hg⟩ := of_bind hg
  by_cases c : okN ds.length = true
  case neg => rw [if_neg c] at hg; cases hg
  rw [if_pos c] at hg
  obtain ⟨⟨r', os'⟩, e2, e3⟩ := of_map hg
  cases e3
  have kin : K.In s.heap := e0.mod.kin.keeps fun b o e => (e0.bs b o e).1
  have dq := peekAll_fz (paired_of R) no e1
  have lv : vs.length ≤ sizeLine := by rw [dq.len]; exact okN_le c
  have lu : us.length ≤ sizeLine := by rw [← rv.length]; exact lv
  have hn : H s.heap.objs.size = none := e0.hok.fresh (Nat.le_refl _)
  have gn : G s.heap.objs.size = none := none_back R.sub hn
  have new : ObjOk P w (upd H s.heap.objs.size (.tup vs)) (s.heap.push ({ cls := .type "tuple", data := .seq us.toArray } : Obj)) s.heap.objs.size (.tup vs) := ⟨lv, us, rv, ⟨_, Heap.get?_push_size _ rfl, rfl, _, rfl⟩⟩
  refine codeAny_call_function hr.depth (kin _ _ lk) rfl sc.co sc.gen rfl (PySem.W.codeRec_of kin hcd) ?_
  rw [show bindArgs (PySem.W.fnOf name qual params body scope dV kV doc pm an cdv ct) ⟨us, ([] : List Str).zip []⟩ = (newTuple us >>= fun t => pure [(pv, t)]) from hbind us]
  refine wpAny_bind (wpAny_newTuple (wpAny_pure ?_) lu)
  have N1 := NewR.tup (K := K) R.sub hn dq
  have Rt : Rl K (upd G s.heap.objs.size (.tup vs)) (ags [.fz (.tuple ds)]) (vls [.ref s.heap.objs.size]) (upd H s.heap.objs.size (.tup vs)) := rl_of N1.sub (.cons N1.res .nil) fun s hs => by
    rcases List.mem_cons.mp hs with e | hs
    · subst e; rfl
    · cases hs
  refine body_ok (as := [.fz (.tuple ds)]) (vs := [.ref s.heap.objs.size]) (us := [.ref s.heap.objs.size]) (Q := Q) sc hb hr hgd (StX.env0_laid e0 new) (.cons rfl .nil) Rt rfl e2 (post_fz no (fun s hs => by
    rcases List.mem_cons.mp hs with e | hs
    · subst e; rfl
    · cases hs) R N1.sg N1.sh N1.nw post) fun u s' h => ?_
  obtain ⟨v, H', h1, h2, h3, h4, h5, h6⟩ := h
  exact ⟨v, H', h1, h2, (StX.un_laid hn).trans h3, h4, h5, h6⟩

/-! ### forms of calls -/
theorem Vals.of_app {xs ys : List V} {us ws : List Value} (a : Vals xs us) (b : Vals ys ws) : Vals (xs ++ ys) (us ++ ws) := L2.Vals.append a b
/-- every parameter by its position -/
theorem dfn_pos {k : Nat} {f : Addr} {fd : FuncData} {ps : List Str} {md : List Bool} {g : FF} (F : DFb P w K mg base k f fd ps md g) (hl : ∀ as r os, g as = some (r, os) → as.length = ps.length) (hb : Binds K fd ps []) (kp : PySem.W.keepIn K (.ref f) = true) : DFn P w K mg base k f [] md g := by
  refine ⟨fun A outer s H us ws vs zs as r os G Q hr hgd e0 rv rz lz R hok hg post => ?_, kp⟩
  have ez : ws = [] := List.eq_nil_of_length_eq_zero lz
  subst ez
  cases rz
  rw [List.append_nil] at R post
  have l0 : as.length = vs.length := by have := R.len; rwa [List.length_map, List.length_map] at this
  have kin : K.In s.heap := e0.mod.kin.keeps fun b o e => (e0.bs b o e).1
  have bd := hb s us kin (by rw [List.append_nil, ← rv.length, ← l0]; exact hl _ _ _ hg)
  rw [List.append_nil] at bd
  exact F.run A outer s H ⟨us, []⟩ us vs as r os G Q hr hgd e0 bd rv R hok hg post
/-- some values by keywords, some by defaults: all frozen. gS puts them in the parameters' order -/
def arrF (n : Nat) (gS : List S → List S) (g : FF) : FF := fun as => if as.length = n then (g (gS as)).map fun r => (r.1, as) else none
theorem dfn_kb {k n : Nat} {f : Addr} {fd : FuncData} {ps ks : List Str} {g : FF} {gv : List Value → List Value → List Value} {gV : List V → List V → List V} {gS : List S → List S} (F : DFb P w K mg base k f fd ps [] g) (kb : KBn K fd ps n ks gv gV) (kp : PySem.W.keepIn K (.ref f) = true)
    (hS : ∀ (G H : Hp) (as : List S) (vs zs : List V), vs.length = n → zs.length = ks.length → Paired (SlotR K G H) as (vs ++ zs) → (∀ s ∈ as, s.own = false) → Paired (SlotR K G H) (gS as) (gV vs zs) ∧ ∀ s ∈ gS as, s.own = false) :
    DFn P w K mg base k f ks [] (arrF (n + ks.length) gS g) := by
  refine ⟨fun A outer s H us ws vs zs as r os G Q hr hgd e0 rv rz lz R hok hg post => ?_, kp⟩
  have no := okM_no hok
  unfold arrF at hg
  by_cases hl : as.length = n + ks.length
  case neg => rw [if_neg hl] at hg; cases hg
  rw [if_pos hl] at hg
  obtain ⟨⟨r', os'⟩, e2, e3⟩ := of_map hg
  cases e3
  have l0 : as.length = (vs ++ zs).length := by have := R.len; rwa [List.length_map, List.length_map] at this
  have l2 : zs.length = ks.length := by rw [rz.length]; exact lz
  rw [List.length_append] at l0
  have l1 : vs.length = n := by omega
  have kin : K.In s.heap := e0.mod.kin.keeps fun b o e => (e0.bs b o e).1
  obtain ⟨h1, h2⟩ := hS G H as vs zs l1 l2 (paired_of R) no
  exact F.run A outer s H ⟨us, ks.zip ws⟩ (gv us ws) (gV vs zs) (gS as) _ os' G Q hr hgd e0 (kb.to s us ws kin (by rw [← rv.length]; exact l1) lz) (kb.rel rv rz) (rl_of R.sub h1 h2) (no_okM h2) e2 (post_fz no h2 R Sub.rfl Sub.rfl (fun _ _ e => .inl e) post)
theorem fnF_len {np n : Nat} {md : List Bool} {m : SF} {as : List S} {r : S} {os : List S} (h : fnF np n md m as = some (r, os)) : as.length = np := by
  unfold fnF at h
  by_cases hl : as.length = np
  · exact hl
  · rw [if_neg hl] at h; cases h
end

/-! ### the call -/
/-- the marks of a def whose place j alone takes an own object -/
def mdL : Option Nat → List Bool
  | none => []
  | some j => List.replicate j false ++ [true]
def keepS (ρ : PSt) : S → Option S
  | .al i => match ρ[i]? with
    | some (some (.ol ds)) => some (.ol ds)
    | some (some (.od ds)) => some (.od ds)
    | _ => none
  | _ => none
def frzS (ρ : PSt) : S → Option (S × PSt)
  | .sc ns => some (.sc ns, ρ)
  | s => (S.frz ρ s).map fun q => (.fz q.1, q.2)
/-- the arguments handed on: place j as it is, the others frozen -/
def entA : Option Nat → List S → PSt → Option (List S × PSt)
  | _, [], ρ => some ([], ρ)
  | some 0, s :: ss, ρ => (entA none ss ρ).bind fun p => (keepS p.2 s).map fun c => (c :: p.1, p.2)
  | some (j + 1), s :: ss, ρ => (frzS ρ s).bind fun q => (entA (some j) ss q.2).map fun p => (q.1 :: p.1, p.2)
  | none, s :: ss, ρ => (frzS ρ s).bind fun q => (entA none ss q.2).map fun p => (q.1 :: p.1, p.2)
theorem keepS_ok {ρ : PSt} {s c : S} (e : keepS ρ s = some c) : ∃ i, s = .al i ∧ ρ[i]? = some (some c) ∧ c.own = true := by
  cases s with
  | al i =>
    have e' : (match ρ[i]? with
      | some (some (.ol ds)) => some (S.ol ds)
      | some (some (.od ds)) => some (.od ds)
      | _ => none) = some c := e
    rcases q : ρ[i]? with _ | (_ | s2)
    · rw [q] at e'; cases e'
    · rw [q] at e'; cases e'
    · rw [q] at e'
      cases s2 with
      | ol ds => cases e'; exact ⟨i, rfl, q, rfl⟩
      | od ds => cases e'; exact ⟨i, rfl, q, rfl⟩
      | _ => cases e'
  | _ => cases e
section
variable {K : PySem.W.Frag}
theorem frzS_ok {G H : Hp} {ρ ρ2 : PSt} {σ : L2.St} {s c : S} {v : V} (R : Rl K G ρ σ H) (a : ArgR K G σ s v) (e : frzS ρ s = some (c, ρ2)) : ∃ G2, Rl K G2 ρ2 σ H ∧ Stp G ρ σ H G2 ρ2 σ H ∧ SlotR K G2 H c v ∧ c.own = false := by
  have gen : ∀ s, ArgR K G σ s v → ((S.frz ρ s).map fun q => (S.fz q.1, q.2)) = some (c, ρ2) → ∃ G2, Rl K G2 ρ2 σ H ∧ Stp G ρ σ H G2 ρ2 σ H ∧ SlotR K G2 H c v ∧ c.own = false := fun s a e => by
    obtain ⟨⟨d, ρ3⟩, e1, e2⟩ := of_map e
    cases e2
    obtain ⟨G2, E⟩ := frz_ok (G := G) (ρ := ρ) (H := H) (ρ' := ρ) (G' := G) (H' := H) ⟨R, Stp.rfl, a.res⟩ e1
    exact ⟨G2, E.rl, E.st, E.res, rfl⟩
  cases s with
  | sc ns => cases e; exact ⟨G, R, Stp.rfl, a, rfl⟩
  | fz d => exact gen _ a e
  | al d => exact gen _ a e
  | ol d => exact a.elim
  | od d => exact a.elim
theorem entA_ok {σ : L2.St} {H : Hp} : ∀ {j : Option Nat} {ss : List S} {vs : List V} {as : List S} {G : Hp} {ρ ρ2 : PSt}, Rl K G ρ σ H → ArgsR K G σ ss vs → entA j ss ρ = some (as, ρ2) →
    ∃ G2, Rl K G2 ρ2 σ H ∧ Stp G ρ σ H G2 ρ2 σ H ∧ Paired (SlotR K G2 H) as vs ∧ (∀ (n : Nat) (s : S), as[n]? = some s → s.own = true → j = some n ∧ ∃ i, ss[n]? = some (.al i) ∧ ρ2[i]? = some (some s))
  | j, [], _, _, G, ρ, _, R, .nil, e => by
    have e' : entA j [] ρ = some ([], ρ) := by cases j with
      | none => rfl
      | some j => cases j <;> rfl
    rw [e'] at e
    cases e
    exact ⟨G, R, Stp.rfl, .nil, fun n s e => by simp at e⟩
  | some 0, s :: ss, _, _, G, ρ, _, R, .cons a as', e => by
    obtain ⟨⟨l, ρ3⟩, e1, e⟩ := of_bind e
    obtain ⟨c, e2, e⟩ := of_map e
    cases e
    obtain ⟨G2, R2, p2, q2, o2⟩ := entA_ok (j := none) R as' e1
    obtain ⟨i, es, ec, co⟩ := keepS_ok e2
    subst es
    obtain ⟨v, ev, sr⟩ := R2.slot i c ec
    have ha : σ[i]? = some (some _) := a
    rw [ha] at ev
    cases ev
    refine ⟨G2, R2, p2, .cons sr q2, fun n s en so => ?_⟩
    cases n with
    | zero => cases en; exact ⟨rfl, i, rfl, ec⟩
    | succ n => cases (o2 n s en so).1
  | some (j + 1), s :: ss, _, _, G, ρ, _, R, .cons a as', e => by
    obtain ⟨⟨c, ρ3⟩, e1, e⟩ := of_bind e
    obtain ⟨⟨l, ρ4⟩, e2, e⟩ := of_map e
    cases e
    obtain ⟨G1, R1, p1, s1, n1⟩ := frzS_ok R a e1
    obtain ⟨G2, R2, p2, q2, o2⟩ := entA_ok (j := some j) R1 (ArgsR.up as' p1.sub) e2
    refine ⟨G2, R2, p1.trans p2, .cons (s1.later p2.sub fun so => by rw [n1] at so; cases so) q2, fun n s en so => ?_⟩
    cases n with
    | zero => cases en; rw [n1] at so; cases so
    | succ n =>
      obtain ⟨h1, h2⟩ := o2 n s en so
      cases h1
      exact ⟨rfl, h2⟩
  | none, s :: ss, _, _, G, ρ, _, R, .cons a as', e => by
    obtain ⟨⟨c, ρ3⟩, e1, e⟩ := of_bind e
    obtain ⟨⟨l, ρ4⟩, e2, e⟩ := of_map e
    cases e
    obtain ⟨G1, R1, p1, s1, n1⟩ := frzS_ok R a e1
    obtain ⟨G2, R2, p2, q2, o2⟩ := entA_ok (j := none) R1 (ArgsR.up as' p1.sub) e2
    refine ⟨G2, R2, p1.trans p2, .cons (s1.later p2.sub fun so => by rw [n1] at so; cases so) q2, fun n s en so => ?_⟩
    cases n with
    | zero => cases en; rw [n1] at so; cases so
    | succ n => cases (o2 n s en so).1
theorem paired_get {α β : Type} {F : α → β → Prop} : ∀ {l : List α} {l' : List β} {i : Nat} {x : α}, Paired F l l' → l[i]? = some x → ∃ y, l'[i]? = some y ∧ F x y
  | _, _, _, _, .nil, e => by simp at e
  | _, _, 0, _, .cons h _, e => by cases e; exact ⟨_, rfl, h⟩
  | _, _, i + 1, _, .cons _ t, e => paired_get (i := i) t e
theorem paired_len {α β : Type} {F : α → β → Prop} {l : List α} {l' : List β} (h : Paired F l l') : l.length = l'.length := Paired.length h
theorem okM_of {j : Option Nat} : ∀ {as : List S}, (∀ (n : Nat) (s : S), as[n]? = some s → s.own = true → j = some n) → okM (mdL j) as = true := by
  have nil : ∀ as : List S, (∀ s ∈ as, s.own = false) → okM [] as = true := fun as => by
    induction as with
    | nil => intro _; rfl
    | cons a as ih =>
      intro h
      show (!a.own && okM [] as) = true
      rw [h a (List.mem_cons_self ..), ih fun s hs => h s (List.mem_cons_of_mem _ hs)]
      rfl
  have no : ∀ {as : List S}, (∀ (n : Nat) (s : S), as[n]? = some s → s.own = true → False) → ∀ s ∈ as, s.own = false := fun {as} h s hs => by
    obtain ⟨n, hn⟩ := List.mem_iff_getElem?.mp hs
    cases q : s.own with
    | false => rfl
    | true => exact (h n s hn q).elim
  intro as h
  cases j with
  | none => exact nil as (no fun n s e o => by cases h n s e o)
  | some j =>
    induction j generalizing as with
    | zero =>
      cases as with
      | nil => rfl
      | cons a as =>
        show ((true || !a.own) && okM [] as) = true
        rw [nil as (no fun n s e o => by cases h (n + 1) s e o)]
        rfl
    | succ j ih =>
      cases as with
      | nil => rfl
      | cons a as =>
        show ((false || !a.own) && okM (mdL (some j)) as) = true
        rw [ih fun n s e o => by cases h (n + 1) s e o; rfl]
        cases q : a.own with
        | false => rfl
        | true => cases h 0 a rfl q
/-- behind the call: what stood at place j is what it has become -/
def leaA (j : Option Nat) (ss outs : List S) (ρ : PSt) : PSt := match j with
  | none => ρ
  | some j => match ss[j]?, outs[j]? with
    | some (.al i), some o => ρ.set i (some o)
    | _, _ => ρ
def callF (j : Option Nat) (g : FF) (f : AF) (fk : AF) : EF := fun ρ =>
  (f ρ).bind fun p => (fk p.2).bind fun q => (entA j (p.1 ++ q.1) q.2).bind fun a => (g a.1).map fun r => (r.1, leaA j (p.1 ++ q.1) r.2 a.2)
/-- the end of a call, for the caller -/
theorem call_end {j : Option Nat} {G0 H0 G H : Hp} {ρ0 ρ : PSt} {σ : L2.St} {ss as outs : List S} {vs : List V} {r : S} {Q : VK} (R : Rl K G ρ σ H) (p : Stp G0 ρ0 σ H0 G ρ σ H) (ha : ArgsR K G σ ss vs) (hs : Paired (SlotR K G H) as vs)
    (ho : ∀ (n : Nat) (s : S), as[n]? = some s → s.own = true → j = some n ∧ ∃ i, ss[n]? = some (.al i) ∧ ρ[i]? = some (some s)) (hj : ∀ n, j = some n → (∃ s, as[n]? = some s ∧ s.own = true) ∨ ss[n]? = none) (q : ∀ v G' H', EvR K G0 ρ0 σ H0 r (leaA j ss outs ρ) v G' H' → Q v H') :
    Rl K G (ags as) (vls vs) H ∧ Post K G as vs H r outs Q := by
  have slotC : ∀ {n : Nat} {s : S} {v : V}, as[n]? = some s → vs[n]? = some v → SlotR K G H s v := fun {n s v} e1 e2 => by
    obtain ⟨v', e3, sr⟩ := paired_get hs e1
    rw [e2] at e3
    cases e3
    exact sr
  have own1 : ∀ {a : Addr}, Own (ags as) (vls vs) a → ∃ n i s, j = some n ∧ ss[n]? = some (.al i) ∧ ρ[i]? = some (some s) ∧ s.own = true ∧ σ[i]? = some (some (.ref a)) ∧ vs[n]? = some (.ref a) := fun {a} ⟨n, ⟨s, e, so⟩, e2⟩ => by
    obtain ⟨h1, i, h2, h3⟩ := ho n s (get_ags.mp e) so
    obtain ⟨v, e4, ar⟩ := paired_get ha h2
    have e2 := get_vls.mp e2
    rw [e2] at e4
    cases e4
    exact ⟨n, i, s, h1, h2, h3, so, ar, e2⟩
  have RC : Rl K G (ags as) (vls vs) H := by
    refine ⟨R.sub, fun n s e => ?_, fun n m a ⟨s, e, so⟩ ⟨s', e', so'⟩ _ _ => ?_, by rw [List.length_map, List.length_map]; exact paired_len hs⟩
    · obtain ⟨v, e3, sr⟩ := paired_get hs (get_ags.mp e)
      exact ⟨v, get_vls.mpr e3, sr⟩
    · have h1 := (ho n s (get_ags.mp e) so).1
      have h2 := (ho m s' (get_ags.mp e') so').1
      rw [h1] at h2
      cases h2
      rfl
  refine ⟨RC, fun v G' H' R' p' rr => ?_⟩
  -- the caller's own objects: the one handed on, or untouched
  have own2 : ∀ {a : Addr}, Own (ags as) (vls vs) a → Own ρ σ a := fun h => by
    obtain ⟨n, i, s, _, _, h3, so, h4, _⟩ := own1 h
    exact ⟨i, ⟨s, h3, so⟩, h4⟩
  have keepO : ∀ {n : Nat} {s : S} {a : Addr} {o : HO}, ρ[n]? = some (some s) → s.own = true → σ[n]? = some (some (.ref a)) → (∀ m i, j = some m → ss[m]? = some (.al i) → n ≠ i) → G a = none → H a = some o → H' a = some o ∧ G' a = none := fun {n s a o} e so e2 hn g h => by
    have no : ¬ Own (ags as) (vls vs) a := fun z => by
      obtain ⟨m, i, s', h1, h2, h3, so', h4, _⟩ := own1 z
      exact hn m i h1 h2 (R.dist n i a ⟨s, e, so⟩ ⟨s', h3, so'⟩ e2 h4)
    refine ⟨p'.keep a o h no, ?_⟩
    cases e3 : G' a with
    | none => rfl
    | some u =>
      rcases p'.nw a u e3 with z | z | z
      · rw [g] at z; cases z
      · rw [h] at z; cases z
      · exact absurd z no
  have main : Rl K G' (leaA j ss outs ρ) σ H' ∧ (∀ a, Own (leaA j ss outs ρ) σ a → Own ρ σ a) := by
    have plain : (∀ n s, ρ[n]? = some (some s) → s.own = true → ∀ m i, j = some m → ss[m]? = some (.al i) → n ≠ i) → Rl K G' ρ σ H' := fun hn => by
      refine ⟨R'.sub, fun n s e => ?_, R.dist, R.len⟩
      obtain ⟨v, e1, sr⟩ := R.slot n s e
      exact ⟨v, e1, sr.later p'.sub fun so a o ea g h => keepO e so (by rw [e1, ea]) (hn n s e so) g h⟩
    cases j with
    | none => exact ⟨plain (fun _ _ _ _ _ _ e => by cases e), fun _ h => h⟩
    | some m =>
      rcases hj m rfl with ⟨s, e1, so⟩ | en
      case inr =>
        have el : leaA (some m) ss outs ρ = ρ := by
          show (match ss[m]?, outs[m]? with
            | some (.al i), some o => ρ.set i (some o)
            | _, _ => ρ) = _
          rw [en]
        rw [el]
        exact ⟨plain (fun _ _ _ _ m' i' em ei => by cases em; rw [en] at ei; cases ei), fun _ h => h⟩
      obtain ⟨_, i, e2, e3⟩ := ho m s e1 so
      have lo : outs.length = as.length := by
        have l1 := R'.len
        have l2 := RC.len
        rw [List.length_map, List.length_map] at l1 l2
        omega
      obtain ⟨o, e4⟩ : ∃ o, outs[m]? = some o := ⟨_, List.getElem?_eq_getElem (by rw [lo]; exact (List.getElem?_eq_some_iff.mp e1).1)⟩
      have el : leaA (some m) ss outs ρ = ρ.set i (some o) := by
        show (match ss[m]?, outs[m]? with
          | some (.al i), some o => ρ.set i (some o)
          | _, _ => ρ) = _
        rw [e2, e4]
      rw [el]
      obtain ⟨vm, ev, ar⟩ := paired_get ha e2
      have ar : σ[i]? = some (some vm) := ar
      obtain ⟨v2, ev2, sr2⟩ := R'.slot m o (get_ags.mpr e4)
      have ev2 := get_vls.mp ev2
      rw [ev] at ev2
      cases ev2
      have il : i < ρ.length := (List.getElem?_eq_some_iff.mp e3).1
      have lk : ∀ n s', (ρ.set i (some o))[n]? = some (some s') → (n = i ∧ s' = o) ∨ (n ≠ i ∧ ρ[n]? = some (some s')) := fun n s' e => by
        by_cases hn : i = n
        · subst hn
          rw [List.getElem?_set_self il] at e
          cases e
          exact .inl ⟨rfl, rfl⟩
        · rw [List.getElem?_set_ne hn] at e
          exact .inr ⟨fun z => hn z.symm, e⟩
      have ow : ∀ n, OwnAt (ρ.set i (some o)) n → OwnAt ρ n := fun n ⟨s', e, so'⟩ => by
        rcases lk n s' e with ⟨rfl, _⟩ | ⟨_, e⟩
        · exact ⟨s, e3, so⟩
        · exact ⟨s', e, so'⟩
      refine ⟨⟨R'.sub, fun n s' e => ?_, fun n n' a h1 h2 => R.dist n n' a (ow n h1) (ow n' h2), by rw [List.length_set]; exact R.len⟩, fun a ⟨n, h, e⟩ => ⟨n, ow n h, e⟩⟩
      rcases lk n s' e with ⟨rfl, rfl⟩ | ⟨hn, e⟩
      · exact ⟨vm, ar, sr2⟩
      · obtain ⟨v, e5, sr⟩ := R.slot n s' e
        refine ⟨v, e5, sr.later p'.sub fun so' a o' ea g h => keepO e so' (by rw [e5, ea]) (fun m' i' em ei => ?_) g h⟩
        cases em
        rw [e2] at ei
        cases ei
        exact hn
  obtain ⟨RN, ownN⟩ := main
  have pN : Stp G ρ σ H G' (leaA j ss outs ρ) σ H' := by
    refine ⟨p'.sub, fun a o e => ?_, fun a o e n => p'.keep a o e fun z => n (own2 z), fun a h => .inl (ownN a h), p'.th⟩
    rcases p'.nw a o e with z | z | z
    · exact .inl z
    · exact .inr (.inl z)
    · exact .inr (.inr (own2 z))
  refine q v G' H' ⟨RN, p.trans pN, ?_⟩
  have fresh : ∀ a, H a = none → H0 a = none ∧ ¬ Own (leaA j ss outs ρ) σ a := fun a n => ⟨p.none_back n, fun z => by
    obtain ⟨_, u, e⟩ := R.own_at (ownN a z)
    rw [n] at e; cases e⟩
  cases r with
  | fz d => exact rr
  | ol d => exact ⟨rr.1, fun a e => fresh a (rr.2 a e).1⟩
  | od d => exact ⟨rr.1, fun a e => fresh a (rr.2 a e).1⟩
  | al i => exact rr.elim
  | sc i => exact rr.elim
theorem entA_j {n : Nat} : ∀ {ss : List S} {as : List S} {ρ ρ2 : PSt}, entA (some n) ss ρ = some (as, ρ2) → (∃ s, as[n]? = some s ∧ s.own = true) ∨ ss[n]? = none := by
  induction n with
  | zero =>
    intro ss as ρ ρ2 e
    cases ss with
    | nil => exact .inr rfl
    | cons s ss =>
      obtain ⟨⟨l, ρ3⟩, e1, e⟩ := of_bind e
      obtain ⟨c, e2, e⟩ := of_map e
      cases e
      obtain ⟨i, _, _, co⟩ := keepS_ok e2
      exact .inl ⟨c, rfl, co⟩
  | succ n ih =>
    intro ss as ρ ρ2 e
    cases ss with
    | nil => exact .inr rfl
    | cons s ss =>
      obtain ⟨⟨c, ρ3⟩, e1, e⟩ := of_bind e
      obtain ⟨⟨l, ρ4⟩, e2, e⟩ := of_map e
      cases e
      exact ih e2
end
/-! ### the call as an expression -/
section
variable {X : Cx} {k : Nat} {f : Addr} {ks : List Str} {md : Option Nat} {g : FF} {x : Str} {p pos : Pos} {e : Expr} {es : List Expr} {kws : List Keyword} {fa fk : AF}
def tCallD (K : PySem.W.Frag) (ks : List Str) (md : Option Nat) (g : FF) (ta tk : TA) : TE := fun σ H Q => ta σ H fun vs H1 => tk σ H1 fun zs H2 =>
  ∃ (G : Hp) (as : List S) (r : S) (outs : List S), Rl K G (ags as) (vls (vs ++ zs)) H2 ∧ okM (mdL md) as = true ∧ g as = some (r, outs) ∧ zs.length = ks.length ∧ Post K G as (vs ++ zs) H2 r outs Q
theorem run_fnD {pins : List (Addr × Obj)} {σ : L2.St} {H : Hp} {s : Shared} {Q : VK} {us ws : List Value} {vs zs : List V} (F : DFn X.prog X.w X.K X.mg X.base k f ks (mdL md) g) (hr : Room k X.A) (hgd : X.A.guards = some []) (I : Inv X pins σ H s) (rv : Vals vs us) (rz : Vals zs ws)
    (h : ∃ (G : Hp) (as : List S) (r : S) (outs : List S), Rl X.K G (ags as) (vls (vs ++ zs)) H ∧ okM (mdL md) as = true ∧ g as = some (r, outs) ∧ zs.length = ks.length ∧ Post X.K G as (vs ++ zs) H r outs Q) : wpAny (model X.prog X.w) X.A (call (.ref f) us (ks.zip ws)) (EP X pins σ Q) X.xe s := by
  obtain ⟨G, as, r, outs, R, ok, eg, lz, post⟩ := h
  refine wpAny_call (codeAny_mono (F.run X.A X.stack s H us ws vs zs as r outs G Q hr hgd I.env0 rv rz (by rw [← rz.length]; exact lz) R ok eg post) fun res s' hq => ?_)
  rcases res with err | fl
  · exact hq.elim
  · cases fl with
    | ret u => exact I.after hq
    | _ => exact hq.elim
/-- keywords, from the left -/
def DK (X : Cx) (kws : List Keyword) (f : AF) : Prop :=
  ∃ t, PK X kws t ∧ ∀ (G : Hp) (ρ : PSt) (σ : L2.St) (H : Hp) (ss : List S) (ρ' : PSt) (Q : List V → Hp → Prop), Rl X.K G ρ σ H → f ρ = some (ss, ρ') →
    (∀ vs G' H', Rl X.K G' ρ' σ H' → Stp G ρ σ H G' ρ' σ H' → ArgsR X.K G' σ ss vs → Q vs H') → t σ H Q
theorem dk_nil : DK X [] nilF := ⟨tNil, pk_nil, fun G ρ σ H ss ρ' Q R e q => by cases e; exact q [] G H R Stp.rfl .nil⟩
theorem dk_cons {nm : Option Str} {kpos : Pos} {f : EF} {g : AF} (ha : DE X e f) (hr : DK X kws g) : DK X (⟨nm, e, kpos⟩ :: kws) (consF f g) := by
  obtain ⟨ta, pa, sa⟩ := ha
  obtain ⟨tr, pr, sr⟩ := hr
  refine ⟨tCons ta tr, pk_cons pa pr, fun G ρ σ H ss ρ' Q R e q => ?_⟩
  obtain ⟨⟨s1, ρ1⟩, e1, e⟩ := of_bind e
  obtain ⟨⟨s2, ρ2⟩, e2, e⟩ := of_bind e
  obtain ⟨⟨s3, ρ3⟩, e3, e⟩ := of_map e
  cases e
  refine sa G ρ σ H s1 ρ1 _ R e1 fun v G1 H1 E1 => ?_
  obtain ⟨G2, R2, p2, a2⟩ := argS_ok E1 e2
  exact sr G2 ρ2 σ H1 s3 ρ3 _ R2 e3 fun vs G3 H3 R3 p3 a3 => q (v :: vs) G3 H3 R3 (p2.trans p3) (.cons (a2.up p3.sub) a3)
theorem Paired.app {α β : Type} {F : α → β → Prop} : ∀ {a c : List α} {b d : List β}, Paired F a b → Paired F c d → Paired F (a ++ c) (b ++ d)
  | _, _, _, _, .nil, q => q
  | _, _, _, _, .cons h t, q => .cons h (Paired.app t q)
theorem call_run {ta tk : TA} (sa : ∀ (G : Hp) (ρ : PSt) (σ : L2.St) (H : Hp) (ss : List S) (ρ' : PSt) (Q : List V → Hp → Prop), Rl X.K G ρ σ H → fa ρ = some (ss, ρ') → (∀ vs G' H', Rl X.K G' ρ' σ H' → Stp G ρ σ H G' ρ' σ H' → ArgsR X.K G' σ ss vs → Q vs H') → ta σ H Q)
    (sk : ∀ (G : Hp) (ρ : PSt) (σ : L2.St) (H : Hp) (ss : List S) (ρ' : PSt) (Q : List V → Hp → Prop), Rl X.K G ρ σ H → fk ρ = some (ss, ρ') → (∀ vs G' H', Rl X.K G' ρ' σ H' → Stp G ρ σ H G' ρ' σ H' → ArgsR X.K G' σ ss vs → Q vs H') → tk σ H Q)
    (lk : ∀ ρ ss ρ', fk ρ = some (ss, ρ') → ss.length = ks.length) {G : Hp} {ρ : PSt} {σ : L2.St} {H : Hp} {s : S} {ρ' : PSt} {Q : VK} (R : Rl X.K G ρ σ H) (e : callF md g fa fk ρ = some (s, ρ')) (q : ∀ v G' H', EvR X.K G ρ σ H s ρ' v G' H' → Q v H') : tCallD X.K ks md g ta tk σ H Q := by
  obtain ⟨⟨ss, ρ1⟩, e1, e⟩ := of_bind e
  obtain ⟨⟨zz, ρ2⟩, e2, e⟩ := of_bind e
  obtain ⟨⟨as, ρ3⟩, e3, e⟩ := of_bind e
  obtain ⟨⟨r, outs⟩, e4, e⟩ := of_map e
  cases e
  refine sa G ρ σ H ss ρ1 _ R e1 fun vs G1 H1 R1 p1 a1 => ?_
  refine sk G1 ρ1 σ H1 zz ρ2 _ R1 e2 fun zs G2 H2 R2 p2 a2 => ?_
  have aa : ArgsR X.K G2 σ (ss ++ zz) (vs ++ zs) := Paired.app (a1.up p2.sub) a2
  obtain ⟨G3, R3, p3, s3, o3⟩ := entA_ok R2 aa e3
  obtain ⟨RC, post⟩ := call_end (outs := outs) (r := r) R3 ((p1.trans p2).trans p3) (aa.up p3.sub) s3 o3 (fun n en => by rw [en] at e3; exact entA_j e3) q
  exact ⟨G3, as, r, outs, RC, okM_of fun n s' h1 h2 => (o3 n s' h1 h2).1, e4, by rw [← paired_len a2]; exact lk _ _ _ e2, post⟩
theorem nilF_len {ρ ρ' : PSt} {ss : List S} (h : nilF ρ = some (ss, ρ')) : ss.length = ([] : List Str).length := by cases h; rfl
theorem consF_len {f : EF} {g : AF} {ks : List Str} {y : Str} (hg : ∀ ρ ss ρ', g ρ = some (ss, ρ') → ss.length = ks.length) : ∀ ρ ss ρ', consF f g ρ = some (ss, ρ') → ss.length = (y :: ks).length := fun ρ ss ρ' e => by
  obtain ⟨⟨s1, ρ1⟩, e1, e⟩ := of_bind e
  obtain ⟨⟨s2, ρ2⟩, e2, e⟩ := of_bind e
  obtain ⟨⟨s3, ρ3⟩, e3, e⟩ := of_map e
  cases e
  exact congrArg Nat.succ (hg _ _ _ e3)
/-- f(e, .., k = v, ..) -/
theorem de_call (F : DFn X.prog X.w X.K X.mg X.base k f ks (mdL md) g) (hr : Room k X.A) (hgd : X.A.guards = some []) (hg : Gl X x) (hm : X.mg x = some (.ref f)) (ha : DA X (e :: es) fa) (hk : DK X kws fk) (lk : ∀ ρ ss ρ', fk ρ = some (ss, ρ') → ss.length = ks.length)
    (hall : (backToKw pos (keywordEach kws X.env)).all (·.1.isSome) = true := by rfl) (hks : (backToKw pos (keywordEach kws X.env)).filterMap (·.1) = ks := by rfl) (hdb : (x == ("__debug__" : Str)) = false := by decide)
    (he : starEach (e :: es) X.env = (false, eval e X.env) :: starEach es X.env := by rfl) (hpl : ((backTo pos (starEach (e :: es) X.env)).any (·.1) || (backToKw pos (keywordEach kws X.env)).any (·.1.isNone)) = false := by rfl) :
    DE X (.Call (.Name x p) (e :: es) kws pos) (callF md g fa fk) := by
  obtain ⟨ta, pa, sa⟩ := ha
  obtain ⟨tk, pk, sk⟩ := hk
  refine ⟨tCallD X.K ks md g ta tk, ⟨fun pins s σ H Q I h => wpAny_Call_Name_kw (ld_glob I hg hm (PySem.W.callWith_KW (h₀ := X.base) I.ok.mod.kin F.kp hall (thn (pa.run pos pins s σ H _ I h) fun us s1 h1 => ?_) hpl he) hdb)⟩, fun G ρ σ H s ρ' Q R e q => call_run sa sk lk R e q⟩
  obtain ⟨vs, H1, I1, r, q⟩ := h1
  refine thn (pk.run pos pins s1 σ H1 _ I1 q) fun ws s2 h2 => ?_
  obtain ⟨zs, H2, I2, rz, q2⟩ := h2
  refine ⟨I2.kIn, ?_⟩
  rw [hks]
  exact run_fnD F hr hgd I2 r rz q2
/-- f(k = v, ..) -/
theorem de_callK (F : DFn X.prog X.w X.K X.mg X.base k f ks (mdL md) g) (hr : Room k X.A) (hgd : X.A.guards = some []) (hg : Gl X x) (hm : X.mg x = some (.ref f)) (hk : DK X kws fk) (lk : ∀ ρ ss ρ', fk ρ = some (ss, ρ') → ss.length = ks.length)
    (hall : (backToKw pos (keywordEach kws X.env)).all (·.1.isSome) = true := by rfl) (hks : (backToKw pos (keywordEach kws X.env)).filterMap (·.1) = ks := by rfl) (hdb : (x == ("__debug__" : Str)) = false := by decide)
    (hpl : ((backTo pos (starEach [] X.env)).any (·.1) || (backToKw pos (keywordEach kws X.env)).any (·.1.isNone)) = false := by rfl) :
    DE X (.Call (.Name x p) [] kws pos) (callF md g nilF fk) := by
  obtain ⟨ta, pa, sa⟩ := da_nil (X := X)
  obtain ⟨tk, pk, sk⟩ := hk
  refine ⟨tCallD X.K ks md g tNil tk, ⟨fun pins s σ H Q I h => wpAny_Call_Name_kw (ld_glob I hg hm (PySem.W.callWith_KW0 (h₀ := X.base) I.ok.mod.kin F.kp hall (thn (pk.run pos pins s σ H _ I h) fun ws s2 h2 => ?_) hpl) hdb)⟩,
    fun G ρ σ H s ρ' Q R e q => call_run (fun G ρ σ H ss ρ' Q R e q => by cases e; exact q [] G H R Stp.rfl .nil) sk lk R e q⟩
  obtain ⟨zs, H2, I2, rz, q2⟩ := h2
  refine ⟨I2.kIn, ?_⟩
  rw [hks]
  exact run_fnD (us := []) F hr hgd I2 .nil rz q2
/-- f() -/
theorem de_call0 (F : DFn X.prog X.w X.K X.mg X.base k f [] (mdL md) g) (hr : Room k X.A) (hgd : X.A.guards = some []) (hg : Gl X x) (hm : X.mg x = some (.ref f)) (hdb : (x == ("__debug__" : Str)) = false := by decide) : DE X (.Call (.Name x p) [] [] pos) (callF md g nilF nilF) := by
  refine ⟨tCallD X.K [] md g tNil tNil, ⟨fun pins s σ H Q I h => wpAny_Call_Name_kw (ld_glob I hg hm (PySem.W.callWith_K0 I.kIn F.kp (run_fnD (us := []) (ws := []) F hr hgd I .nil .nil h)) hdb)⟩,
    fun G ρ σ H s ρ' Q R e q => call_run (fun G ρ σ H ss ρ' Q R e q => by cases e; exact q [] G H R Stp.rfl .nil) (fun G ρ σ H ss ρ' Q R e q => by cases e; exact q [] G H R Stp.rfl .nil) (fun _ _ _ e => nilF_len e) R e q⟩
end
end DL

/-! D6: comprehensions. -/
namespace DL
open L2 PySem PySem.Spec PyProof.Rows

/-! ### one reading for every context -/
def tU (K : PySem.W.Frag) (f : EF) : TE := fun σ H Q => ∃ (G : Hp) (ρ : PSt) (s : S) (ρ' : PSt), Rl K G ρ σ H ∧ f ρ = some (s, ρ') ∧ ∀ v G' H', EvR K G ρ σ H s ρ' v G' H' → Q v H'
def tTU (K : PySem.W.Frag) (f : TF) : TT := fun σ H Q => ∃ (G : Hp) (ρ : PSt) (b : Bool) (ρ' : PSt), Rl K G ρ σ H ∧ f ρ = some (b, ρ') ∧ ∀ G' H', Rl K G' ρ' σ H' → Stp G ρ σ H G' ρ' σ H' → Q b H'
def gU (pm : Nat → Bool) (K : PySem.W.Frag) (h : GF) : TG := fun v σ H Q => ∃ (d : PyData) (G : Hp) (ρ ρ' : PSt), Rl K G ρ σ H ∧ Dq K G v d ∧ h d ρ = some ρ' ∧ ∀ σ', Rl K G ρ' σ' H → Stp G ρ σ H G ρ' σ' H → Par pm σ σ' ∧ σ'.length = σ.length → Q σ' H
theorem DE.pe {X : Cx} {e : Expr} {f : EF} (h : DE X e f) : PE X e (tU X.K f) := by
  obtain ⟨t, p, s⟩ := h
  exact ⟨fun pins st σ H Q I ⟨G, ρ, s1, ρ', R, e1, q⟩ => p.run pins st σ H Q I (s G ρ σ H s1 ρ' Q R e1 q)⟩
theorem DT.pt {X : Cx} {e : Expr} {f : TF} (h : DT X e f) : PT X e (tTU X.K f) := by
  obtain ⟨t, p, s⟩ := h
  exact ⟨fun pins st σ H Q I ⟨G, ρ, s1, ρ', R, e1, q⟩ => p.run pins st σ H Q I (s G ρ σ H s1 ρ' Q R e1 q)⟩
theorem DG.pg {pm : Nat → Bool} {X : Cx} {e : Expr} {h : GF} (hh : DG pm X e h) : PG X e (gU pm X.K h) := by
  obtain ⟨g, p, s⟩ := hh
  exact ⟨fun pins st σ H v u Q I r ⟨d, G, ρ, ρ', R, dq, e1, q⟩ => p.run pins st σ H v u Q I r (s v d G ρ σ H ρ' Q R dq e1 q)⟩

/-! ### the block's own names -/
def wipeS (ρ : PSt) : List Nat → PSt
  | [] => ρ
  | v :: vs => (wipeS ρ vs).set v none
theorem wipeS_len (ρ : PSt) : ∀ vs : List Nat, (wipeS ρ vs).length = ρ.length
  | [] => rfl
  | v :: vs => by rw [wipeS, List.length_set, wipeS_len ρ vs]
theorem wipeS_some {ρ : PSt} {i : Nat} {s : S} : ∀ {vs : List Nat}, (wipeS ρ vs)[i]? = some (some s) → ρ[i]? = some (some s) ∧ i ∉ vs
  | [], e => ⟨e, by simp⟩
  | v :: vs, e => by
    rw [wipeS] at e
    by_cases h : v = i
    · subst h
      rw [List.getElem?_set_self'] at e
      cases q : (wipeS ρ vs)[v]? <;> rw [q] at e <;> cases e
    · rw [List.getElem?_set_ne h] at e
      obtain ⟨e1, e2⟩ := wipeS_some e
      exact ⟨e1, fun z => (List.mem_cons.mp z).elim (fun z => h z.symm) e2⟩
theorem wipe_at {σ : L2.St} {i : Nat} : ∀ {vs : List Nat}, i ∈ vs → i < σ.length → (wipe σ vs)[i]? = some none
  | v :: vs, h, l => by
    rw [wipe]
    by_cases e : v = i
    · subst e
      exact List.getElem?_set_self (by rw [wipe_length]; exact l)
    · rw [List.getElem?_set_ne e]
      exact wipe_at ((List.mem_cons.mp h).elim (fun z => absurd z.symm e) id) l
theorem wipe_ext {σ σ' : L2.St} {vs : List Nat} (l : σ.length = σ'.length) (h : ∀ i, i ∉ vs → σ[i]? = σ'[i]?) : wipe σ vs = wipe σ' vs := by
  apply List.ext_getElem?
  intro i
  by_cases hi : i ∈ vs
  · by_cases hl : i < σ.length
    · rw [wipe_at hi hl, wipe_at hi (by omega)]
    · rw [List.getElem?_eq_none (by rw [wipe_length]; omega), List.getElem?_eq_none (by rw [wipe_length]; omega)]
  · rw [wipe_out hi, wipe_out hi]
    exact h i hi
theorem wipe_wipe {σ : L2.St} {vs : List Nat} : wipe (wipe σ vs) vs = wipe σ vs := wipe_ext (wipe_length σ vs) fun i hi => wipe_out hi
section
variable {K : PySem.W.Frag}
theorem own_wipe {ρ : PSt} {σ σ' : L2.St} {vs : List Nat} (h : ∀ i, i ∉ vs → σ'[i]? = σ[i]?) {a : Addr} : Own (wipeS ρ vs) σ' a → Own ρ σ a := fun ⟨i, ⟨s, e, o⟩, e2⟩ => by
  obtain ⟨e3, hi⟩ := wipeS_some e
  exact ⟨i, ⟨s, e3, o⟩, (h i hi).symm.trans e2⟩
/-- the state without the block's names, for any slots that agree elsewhere -/
theorem rl_wipe {G H : Hp} {ρ : PSt} {σ σ' : L2.St} {vs : List Nat} (R : Rl K G ρ σ H) (l : σ'.length = σ.length) (h : ∀ i, i ∉ vs → σ'[i]? = σ[i]?) : Rl K G (wipeS ρ vs) σ' H := by
  refine ⟨R.sub, fun i s e => ?_, fun i j a ⟨s, e, o⟩ ⟨s', e', o'⟩ e1 e2 => ?_, by rw [wipeS_len, l]; exact R.len⟩
  · obtain ⟨e3, hi⟩ := wipeS_some e
    obtain ⟨v, e4, sr⟩ := R.slot i s e3
    exact ⟨v, (h i hi).trans e4, sr⟩
  · obtain ⟨e3, hi⟩ := wipeS_some e
    obtain ⟨e4, hj⟩ := wipeS_some e'
    exact R.dist i j a ⟨s, e3, o⟩ ⟨s', e4, o'⟩ ((h i hi).symm.trans e1) ((h j hj).symm.trans e2)
theorem rl_unw {G H : Hp} {ρ : PSt} {σ : L2.St} {vs : List Nat} (R : Rl K G ρ (wipe σ vs) H) : Rl K G ρ σ H := by
  refine ⟨R.sub, fun i s e => ?_, fun i j a oi oj e1 e2 => ?_, by rw [R.len, wipe_length]⟩
  · obtain ⟨v, e1, sr⟩ := R.slot i s e
    exact ⟨v, (wipe_some e1).1, sr⟩
  · have get : ∀ {i : Nat}, OwnAt ρ i → σ[i]? = some (some (.ref a)) → (wipe σ vs)[i]? = some (some (.ref a)) := fun {i} ⟨s, e, _⟩ e1 => by
      obtain ⟨v, e2, _⟩ := R.slot i s e
      rw [(wipe_some e2).1] at e1
      cases e1
      exact e2
    exact R.dist i j a oi oj (get oi e1) (get oj e2)
theorem own_unw {G H : Hp} {ρ : PSt} {σ : L2.St} {vs : List Nat} (R : Rl K G ρ (wipe σ vs) H) {a : Addr} (h : Own ρ σ a) : Own ρ (wipe σ vs) a := by
  obtain ⟨i, oi, e1⟩ := h
  obtain ⟨s, e, _⟩ := id oi
  obtain ⟨v, e2, _⟩ := R.slot i s e
  rw [(wipe_some e2).1] at e1
  cases e1
  exact ⟨i, oi, e2⟩
/-- an object that no state knows is changed -/
theorem Rl.out {G H : Hp} {ρ : PSt} {σ : L2.St} {D : Addr} {o : HO} (R : Rl K G ρ σ H) (g : G D = none) (n : ¬ Own ρ σ D) : Rl K G ρ σ (upd H D o) := by
  refine ⟨fun a u e => ?_, fun i s e => ?_, R.dist, R.len⟩
  · have : a ≠ D := fun z => by rw [z, g] at e; cases e
    rw [upd_ne this]
    exact R.sub a u e
  · obtain ⟨v, e1, sr⟩ := R.slot i s e
    refine ⟨v, e1, sr.later Sub.rfl fun so a u ea g1 h1 => ⟨?_, g1⟩⟩
    rw [upd_ne]
    · exact h1
    · rintro rfl
      exact n ⟨i, ⟨s, e, so⟩, by rw [e1, ea]⟩
theorem Stp.out {G G' H H' : Hp} {ρ ρ' : PSt} {σ σ' : L2.St} {D : Addr} {o : HO} (p : Stp G ρ σ H G' ρ' σ' H') (n : H D = none) : Stp G ρ σ H G' ρ' σ' (upd H' D o) := by
  refine ⟨p.sub, p.nw, fun a u e h => ?_, p.own, fun a h => ?_⟩
  · rw [upd_ne (ne_of_none e n)]
    exact p.keep a u e h
  · by_cases e : a = D
    · subst e; rw [upd_same]; exact fun z => nomatch z
    · rw [upd_ne e]; exact p.th a h
end

/-! ### list comprehensions -/
abbrev pmV (vs : List Nat) : Nat → Bool := fun i => !vs.contains i
def compL (h : GF) (ts : TF) (el : EF) (vs : List Nat) : List PyData → PSt → List PyData → Option (List PyData × PSt)
  | [], ρ, acc => some (acc, ρ)
  | d :: ds, ρ, acc => (h d ρ).bind fun ρ2 => (ts ρ2).bind fun p => if p.1 then (el p.2).bind fun q => (S.frz q.2 q.1).bind fun r => if okN (acc.length + 1) then compL h ts el vs ds (wipeS r.2 vs) (acc ++ [r.1]) else none
    else compL h ts el vs ds (wipeS p.2 vs) acc
def compF (it : IF) (h : GF) (ts : TF) (el : EF) (vs : List Nat) : EF := fun ρ => (it ρ).bind fun p => (compL h ts el vs p.1 (wipeS p.2 vs) []).map fun r => (.ol r.1, r.2)
def yesF : TF := fun ρ => some (true, ρ)
theorem lc_run {K : PySem.W.Frag} {wi : TI} {it : IF} {h : GF} {ts : TF} {el : EF} {vs : List Nat} {tt : TT} (ht : TOk K tt ts)
    (sw : ∀ (G : Hp) (ρ : PSt) (σ : L2.St) (H : Hp) (ds : List PyData) (ρ' : PSt) (R : It → Hp → Prop), Rl K G ρ σ H → it ρ = some (ds, ρ') → (∀ J G' H', Rl K G' ρ' σ H' → Stp G ρ σ H G' ρ' σ H' → ItP K G' J ds → R J H') → wi σ H R)
    {G : Hp} {ρ : PSt} {σ : L2.St} {H : Hp} {s : S} {ρ' : PSt} {Q : VK} (R : Rl K G ρ σ H) (e : compF it h ts el vs ρ = some (s, ρ')) (q : ∀ v G' H', EvR K G ρ σ H s ρ' v G' H' → Q v H') : tLc wi (gU (pmV vs) K h) tt (tU K el) vs σ H Q := by
  obtain ⟨⟨ds, ρ1⟩, e1, e⟩ := of_bind e
  obtain ⟨⟨out, ρo⟩, e2, e⟩ := of_map e
  cases e
  refine sw G ρ σ H ds ρ1 _ R e1 fun J G1 H1 R1 p1 itp => ?_
  intro D hD
  have hG1 : G1 D = none := none_back R1.sub hD
  have Rw : Rl K G1 (wipeS ρ1 vs) (wipe σ vs) H1 := rl_wipe R1 (wipe_length σ vs) fun i hi => wipe_out hi
  have nd : ∀ {ρ : PSt} {σ : L2.St} {G : Hp}, Rl K G ρ σ H1 → ¬ Own ρ σ D := fun R z => by
    obtain ⟨_, u, e⟩ := R.own_at z
    rw [hD] at e; cases e
  let I : Nat → Hp → Prop := fun i H2 => ∃ (G2 : Hp) (ρ2 : PSt) (xs : List V) (acc : List PyData), Rl K G2 ρ2 (wipe σ vs) H2 ∧ Stp G1 (wipeS ρ1 vs) (wipe σ vs) H1 G2 ρ2 (wipe σ vs) H2 ∧ H2 D = some (.lst xs) ∧ G2 D = none ∧ ¬ Own ρ2 (wipe σ vs) D ∧ DqAll K G2 xs acc ∧ compL h ts el vs (ds.drop i) ρ2 acc = some (out, ρo)
  refine ⟨fun i m H2 => m = ds.length - i ∧ i ≤ ds.length ∧ I i H2, ⟨_, rfl, Nat.zero_le _, G1, wipeS ρ1 vs, [], [], Rw.out hG1 (nd Rw), Stp.rfl.out hD, upd_same, hG1, nd Rw, .nil, e2⟩, ?_⟩
  rintro i m H2 ⟨rfl, hi, G2, ρ2, xs, acc, R2, p2, h2, g2, n2, a2, ec⟩
  have s2 : Sub G1 G2 := p2.sub
  by_cases hlt : i < ds.length
  · refine .inr ⟨itp.go i H2 (s2.trans R2.sub) hlt, fun H' => I (i + 1) H', fun H' hI => ⟨ds.length - (i + 1), by omega, rfl, hlt, hI⟩, fun x H3 y => ?_⟩
    obtain ⟨G3, N⟩ := itp.yld i ds[i] H2 x H3 G2 s2 R2.sub (List.getElem?_eq_getElem hlt) y
    have R3 := R2.new N.sg N.sh N.sub N.nw
    have p3 := p2.trans (Stp.new (ρ := ρ2) (σ := wipe σ vs) N.sg N.sh N.nw)
    rw [List.drop_eq_getElem_cons hlt] at ec
    obtain ⟨ρ4, e4, ec⟩ := of_bind ec
    obtain ⟨⟨b, ρ5⟩, e5, ec⟩ := of_bind ec
    -- what becomes of D on the way
    have stay : ∀ {G' H' : Hp} {ρ' : PSt} {σ' : L2.St}, Stp G3 ρ2 (wipe σ vs) H3 G' ρ' σ' H' → H' D = some (.lst xs) ∧ G' D = none ∧ ¬ Own ρ' σ' D := fun {G' H' ρ' σ'} p => by
      have h3 : H3 D = some (.lst xs) := N.sh D _ h2
      refine ⟨p.keep D _ h3 n2, ?_, fun z => ?_⟩
      · cases eq : G' D with
        | none => rfl
        | some u =>
          rcases p.nw D u eq with z | z | z
          · rcases N.nw D u z with z | z
            · rw [g2] at z; cases z
            · rw [h2] at z; cases z
          · rw [h3] at z; cases z
          · exact absurd z n2
      · rcases p.own D z with z | z
        · exact n2 z
        · rw [h3] at z; cases z
    refine ⟨ds[i], G3, ρ2, ρ4, R3, N.res, e4, fun σ4 R4 p4 ⟨pr4, l4⟩ => ?_⟩
    have agree : ∀ j, j ∉ vs → σ4[j]? = (wipe σ vs)[j]? := fun j hj => pr4 j (by unfold pmV; simp [hj])
    have wq : wipe σ4 vs = wipe σ vs := by
      rw [← wipe_wipe (σ := σ) (vs := vs)]
      exact wipe_ext l4 agree
    refine ⟨wq, ht G3 ρ4 σ4 H3 b ρ5 _ R4 e5 fun G5 H5 R5 p5 => ?_⟩
    have p35 := p4.trans p5
    have back : ∀ j, j ∉ vs → (wipe σ vs)[j]? = σ4[j]? := fun j hj => (agree j hj).symm
    have lw : (wipe σ vs).length = σ4.length := l4.symm
    -- the next turn's state
    have next : ∀ {G' H' : Hp} {ρ' : PSt}, Rl K G' ρ' σ4 H' → Stp G3 ρ2 (wipe σ vs) H3 G' ρ' σ4 H' → Rl K G' (wipeS ρ' vs) (wipe σ vs) H' ∧ Stp G1 (wipeS ρ1 vs) (wipe σ vs) H1 G' (wipeS ρ' vs) (wipe σ vs) H' ∧ ¬ Own (wipeS ρ' vs) (wipe σ vs) D := fun {G' H' ρ'} R' p' =>
      ⟨rl_wipe R' lw back, (p3.trans p').trans ⟨Sub.rfl, fun _ _ z => .inl z, fun _ _ z _ => z, fun a z => .inl (own_wipe back z), fun _ z => z⟩, fun z => (stay p').2.2 (own_wipe back z)⟩
    cases b with
    | false =>
      obtain ⟨Rn, pn, nn⟩ := next R5 p35
      obtain ⟨hd, gd, _⟩ := stay p35
      exact ⟨G5, wipeS ρ5 vs, xs, acc, Rn, pn, hd, gd, nn, dqAll_up (N.sg.trans p35.sub) acc a2, ec⟩
    | true =>
      obtain ⟨⟨s6, ρ6⟩, e6, ec⟩ := of_bind ec
      obtain ⟨⟨d7, ρ7⟩, e7, ec⟩ := of_bind ec
      refine ⟨G5, ρ5, s6, ρ6, R5, e6, fun v G6 H6 E6 => ?_⟩
      obtain ⟨G7, E7⟩ := frz_ok E6 e7
      have p37 := p35.trans E7.st
      obtain ⟨hd, gd, nn⟩ := stay p37
      obtain ⟨Rn, pn, nn'⟩ := next E7.rl p37
      have a7 : DqAll K G7 xs acc := dqAll_up (N.sg.trans p37.sub) acc a2
      by_cases c : okN (acc.length + 1) = true
      · have ec' : (if okN (acc.length + 1) = true then compL h ts el vs (ds.drop (i + 1)) (wipeS ρ7 vs) (acc ++ [d7]) else none) = some (out, ρo) := ec
        rw [if_pos c] at ec'
        refine ⟨xs, hd, ?_, G7, wipeS ρ7 vs, xs ++ [v], acc ++ [d7], Rn.out gd nn', pn.out hD, upd_same, gd, nn', a7.app (.cons E7.res .nil), ec'⟩
        rw [a7.len]
        exact okN_le c
      · have ec' : (if okN (acc.length + 1) = true then compL h ts el vs (ds.drop (i + 1)) (wipeS ρ7 vs) (acc ++ [d7]) else none) = some (out, ρo) := ec
        rw [if_neg c] at ec'
        cases ec'
  · have e : i = ds.length := by omega
    subst e
    rw [List.drop_length] at ec
    cases ec
    refine .inl ⟨itp.stop H2 (s2.trans R2.sub), q (.ref D) G2 H2 ⟨rl_unw R2, ?_, ⟨D, xs, rfl, g2, h2, a2⟩, fun a ea => ?_⟩⟩
    · refine p1.trans ⟨p2.sub, fun a o ea => ?_, fun a o ea n => p2.keep a o ea fun z => n (own_wipe (fun j hj => wipe_out hj) z), fun a z => ?_, p2.th⟩
      · rcases p2.nw a o ea with z | z | z
        · exact .inl z
        · exact .inr (.inl z)
        · exact .inr (.inr (own_wipe (fun j hj => wipe_out hj) z))
      · rcases p2.own a (own_unw R2 z) with z | z
        · exact .inl (own_wipe (fun j hj => wipe_out hj) z)
        · exact .inr z
    · cases ea
      exact ⟨p1.none_back hD, fun z => n2 (own_unw R2 z)⟩
section
variable {X : Cx} {pos : Pos} {elt tg iter : Expr} {ifs : List Expr} {scope : Scope} {own : List (Str × Nat)} {it : IF} {h : GF} {ts : TF} {el : EF}
/-- one test or none, in every context of the block -/
def DIfs (X : Cx) (scope : Scope) (ifs : List Expr) (ts : TF) : Prop := ∃ t, (∀ (s : Shared) (H : Hp) (C : Addr) (cl : List (Str × Addr)) (fp : List Addr), PTs (X.blk s H scope (compEnvC scope cl C X.env) fp) ifs t) ∧ TOk X.K t ts
theorem difs_nil : DIfs X scope [] yesF := ⟨tYes, fun _ _ _ _ _ => pts_nil, fun G ρ σ H b ρ' Q R e q => by cases e; exact q G H R Stp.rfl⟩
theorem difs_one {c : Expr} (hh : ∀ (s : Shared) (H : Hp) (C : Addr) (cl : List (Str × Addr)) (fp : List Addr), DT (X.blk s H scope (compEnvC scope cl C X.env) fp) c ts) : DIfs X scope [c] ts :=
  ⟨tTU X.K ts, fun s H C cl fp => pts_one (hh s H C cl fp).pt, fun G ρ σ H b ρ' Q R e q => ⟨G, ρ, b, ρ', R, e, q⟩⟩
theorem de_lc (hc : X.calm = true) (hN : X.N.Nodup) (hi : DI X tg iter it) (ok : BlkOk X.N X.env.scope scope own)
    (hg : ∀ (s : Shared) (H : Hp) (C : Addr) (cl : List (Str × Addr)) (fp : List Addr), DG (pmV (own.map (·.2))) (X.blk s H scope (compEnvC scope cl C X.env) fp) tg h) (ht : DIfs X scope ifs ts)
    (he : ∀ (s : Shared) (H : Hp) (C : Addr) (cl : List (Str × Addr)) (fp : List Addr), DE (X.blk s H scope (compEnvC scope cl C X.env) fp) elt el) (hs : ∀ x, foldedSetIterable iter X.env x = pure x := by intro _; rfl) :
    DE X (.ListComp elt [⟨tg, iter, ifs, 0⟩] scope pos) (compF it h ts el (own.map (·.2))) := by
  obtain ⟨w, pw, sw⟩ := hi
  obtain ⟨tt, pt, st⟩ := ht
  exact ⟨_, pe_lc (te := tU X.K el) (g := gU (pmV (own.map (·.2))) X.K h) hc hN pw ok (fun s H C cl fp => (hg s H C cl fp).pg) pt (fun s H C cl fp => (he s H C cl fp).pe) hs, fun G ρ σ H s ρ' Q R e q => lc_run st sw R e q⟩
theorem ds_setLc {pm : Nat → Bool} {i : Nat} {y : Str} {py spos : Pos} (hc : X.calm = true) (hN : X.N.Nodup) (hy : X.N[i]? = some y) (hyl : X.env.scope.names.lookup y = some .local) (hp : pm i = false)
    (hsw : swapsWith (.ListComp elt [⟨tg, iter, ifs, 0⟩] scope pos) (some (.Name y py)) spos.line X.env = pure true) (hi : DI X tg iter it) (ok : BlkOk X.N X.env.scope scope own)
    (hg : ∀ (s : Shared) (H : Hp) (C : Addr) (cl : List (Str × Addr)) (fp : List Addr), DG (pmV (own.map (·.2))) (X.blk s H scope (compEnvC scope cl C X.env) fp) tg h) (ht : DIfs X scope ifs ts)
    (he : ∀ (s : Shared) (H : Hp) (C : Addr) (cl : List (Str × Addr)) (fp : List Addr), DE (X.blk s H scope (compEnvC scope cl C X.env) fp) elt el) (hs : ∀ x, foldedSetIterable iter X.env x = pure x := by intro _; rfl) :
    DS pm X (.Assign [.Name y py] (.ListComp elt [⟨tg, iter, ifs, 0⟩] scope pos) spos) (setF i (compF it h ts el (own.map (·.2)))) := by
  obtain ⟨w, pw, sw⟩ := hi
  obtain ⟨tt, pt, st⟩ := ht
  refine ⟨_, ps_setLc (te := tU X.K el) (g := gU (pmV (own.map (·.2))) X.K h) hc hN hy hyl hsw pw ok (fun s H C cl fp => (hg s H C cl fp).pg) pt (fun s H C cl fp => (he s H C cl fp).pe) hs, fun G ρ σ H o D R e q => ?_⟩
  obtain ⟨⟨s1, ρ1⟩, e1, e⟩ := of_bind e
  obtain ⟨⟨s2, ρ2⟩, e2, e⟩ := of_map e
  cases e
  refine lc_run (Q := fun x H1 => gName i x σ H1 D.nx) st sw R e1 fun v G1 H1 E => ?_
  obtain ⟨G2, R2, p2⟩ := sto_ok (i := i) E e2
  exact q G2 _ H1 R2 p2 (par_set hp)
end
end DL

/-! D7: own objects changed, dicts, repr, isinstance. -/
namespace DL
open L2 PySem PySem.Spec PyProof.Rows

section
variable {K : PySem.W.Frag}
/-- an own object becomes another -/
theorem mut_ok {G H : Hp} {ρ : PSt} {σ : L2.St} {i : Nat} {s s' : S} {a : Addr} {o : HO} (R : Rl K G ρ σ H) (es : ρ[i]? = some (some s)) (so : s.own = true) (ea : σ[i]? = some (some (.ref a))) (n : SlotR K G (upd H a o) s' (.ref a)) (so' : s'.own = true) :
    Rl K G (ρ.set i (some s')) σ (upd H a o) ∧ Stp G ρ σ H G (ρ.set i (some s')) σ (upd H a o) := by
  have oi : OwnAt ρ i := ⟨s, es, so⟩
  have il : i < ρ.length := (List.getElem?_eq_some_iff.mp es).1
  have ow : ∀ j, OwnAt (ρ.set i (some s')) j → OwnAt ρ j := fun j ⟨s2, e, o2⟩ => by
    by_cases h : i = j
    · subst h; exact oi
    · rw [List.getElem?_set_ne h] at e; exact ⟨s2, e, o2⟩
  obtain ⟨g, u, hu⟩ := R.own_at ⟨i, oi, ea⟩
  refine ⟨⟨fun b u e => ?_, fun j s2 e => ?_, fun j k b hj hk => R.dist j k b (ow j hj) (ow k hk), by rw [List.length_set]; exact R.len⟩, Sub.rfl, fun _ _ h => .inl h, fun b u e h => ?_, fun b ⟨j, hj, e⟩ => .inl ⟨j, ow j hj, e⟩, fun b h => ?_⟩
  · have : b ≠ a := fun z => by rw [z, g] at e; cases e
    rw [upd_ne this]
    exact R.sub b u e
  · by_cases h : i = j
    · subst h
      rw [List.getElem?_set_self il] at e
      cases e
      exact ⟨_, ea, n⟩
    · rw [List.getElem?_set_ne h] at e
      obtain ⟨v, e1, sr⟩ := R.slot j s2 e
      refine ⟨v, e1, sr.later Sub.rfl fun so2 b u eb g1 h1 => ⟨?_, g1⟩⟩
      rw [upd_ne]
      · exact h1
      · rintro rfl
        exact h (R.dist i j b oi ⟨s2, e, so2⟩ ea (by rw [e1, eb]))
  · rw [upd_ne]
    · exact e
    · rintro rfl
      exact h ⟨i, oi, ea⟩
  · by_cases e : b = a
    · subst e; rw [upd_same]; exact fun z => nomatch z
    · rw [upd_ne e]; exact h
end

/-! ### xs.append(e), xs.extend(e) -/
def alS : S → Option Nat
  | .al i => some i
  | _ => none
def cellL : Option (Option S) → Option (List PyData)
  | some (some (.ol ds)) => some ds
  | _ => none
def cellK : Option (Option S) → Option (List (Key × PyData))
  | some (some (.od ds)) => some ds
  | _ => none
theorem cellL_ok {x : Option (Option S)} {ds : List PyData} (h : cellL x = some ds) : x = some (some (.ol ds)) := by
  rcases x with _ | (_ | s)
  · cases h
  · cases h
  · cases s <;> first | (cases h; rfl) | cases h
theorem cellK_ok {x : Option (Option S)} {ds : List (Key × PyData)} (h : cellK x = some ds) : x = some (some (.od ds)) := by
  rcases x with _ | (_ | s)
  · cases h
  · cases h
  · cases s <;> first | (cases h; rfl) | cases h
theorem alS_ok {s : S} {i : Nat} (h : alS s = some i) : s = .al i := by
  cases s <;> first | (cases h; rfl) | cases h
/-- what is appended, what a list is extended by: frozen first -/
def appF (f : EF) (g : EF) : EF := fun ρ => (f ρ).bind fun p => (alS p.1).bind fun i => (cellL p.2[i]?).bind fun _ => (g p.2).bind fun q => (S.frz q.2 q.1).bind fun r => (cellL r.2[i]?).bind fun ds =>
  if okN (ds.length + 1) then some (.fz .none, r.2.set i (some (.ol (ds ++ [r.1])))) else none
def lstD : PyData → Option (List PyData)
  | .list es => some es
  | _ => none
def extF (f : EF) (g : EF) : EF := fun ρ => (f ρ).bind fun p => (alS p.1).bind fun i => (cellL p.2[i]?).bind fun _ => (g p.2).bind fun q => (S.frz q.2 q.1).bind fun r => (lstD r.1).bind fun es => (cellL r.2[i]?).bind fun ds =>
  if okN (ds.length + es.length) then some (.fz .none, r.2.set i (some (.ol (ds ++ es)))) else none
theorem of_ite {α : Type} {c : Bool} {x y : α} (h : (if c then some x else none) = some y) : c = true ∧ x = y := by
  cases c with
  | true => exact ⟨rfl, Option.some.inj h⟩
  | false => cases h
theorem list_ty {K : PySem.W.Frag} {H : Hp} {a : Addr} {xs : List V} (h : H a = some (.lst xs)) : tyV K "list" (.ref a) H := .inl ⟨rfl, xs, .of h⟩
section
variable {X : Cx} {o e : Expr} {apos cpos : Pos} {f g : EF}
theorem de_append (ho : DE X o f) (he : DE X e g)
    (hbase : attributeBase o "append" X.env (eval o X.env) = eval o X.env := by rfl)
    (hfew : ((backTo cpos (starEach [e] X.env)).all (fun x => !x.1) && (backToKw cpos (keywordEach [] X.env)).all (fun x => x.1.isSome) && decide (([e] : List Expr).length + ([] : List Keyword).length + (if ([] : List Keyword).isEmpty then 0 else 1) < 30)) = true := by rfl)
    (hline : (apos.endLine == cpos.line) = true := by rfl) (hs : starEach [e] X.env = (false, eval e X.env) :: starEach [] X.env := by rfl) :
    DE X (.Call (.Attribute o "append" apos) [e] [] cpos) (appF f g) := by
  obtain ⟨tf, pf, sf⟩ := ho
  obtain ⟨tg, pg, sg⟩ := he
  refine ⟨_, pe_bm PySem.F.plainAttrs_list PySem.F.slot_list_append PySem.F.type_list_append mt_append pf (pa_cons pg pa_nil hs) hbase hfew hline hs, fun G ρ σ H s ρ' Q R e q => ?_⟩
  obtain ⟨⟨s1, ρ1⟩, e1, e⟩ := of_bind e
  obtain ⟨i, e2, e⟩ := of_bind e
  obtain ⟨ds0, e0, e⟩ := of_bind e
  obtain ⟨⟨s3, ρ3⟩, e3, e⟩ := of_bind e
  obtain ⟨⟨d, ρ4⟩, e4, e⟩ := of_bind e
  obtain ⟨ds, e5, e⟩ := of_bind e
  obtain ⟨c, e⟩ := of_ite e
  cases e
  have e0 := cellL_ok e0
  have e5 := cellL_ok e5
  refine sf G ρ σ H _ ρ1 _ R e1 fun v G1 H1 E1 => ?_
  have r1 := E1.res
  rw [show s1 = S.al i from alS_ok e2] at r1
  have ev : σ[i]? = some (some v) := r1
  obtain ⟨v', ev', a0, xs0, ea0, _, ha0, _⟩ := E1.rl.slot i _ e0
  rw [ev] at ev'
  cases ev'
  subst ea0
  refine ⟨list_ty ha0, ?_⟩
  refine sg G1 ρ1 σ H1 s3 ρ3 _ E1.rl e3 fun y G2 H2 E2 => ?_
  obtain ⟨G3, E3⟩ := frz_ok E2 e4
  obtain ⟨v', ev', a, xs, ea, ga, ha, da⟩ := E3.rl.slot i _ e5
  rw [ev] at ev'
  cases ev'
  cases ea
  refine ⟨a0, xs, y, rfl, rfl, ha, by rw [da.len]; exact okN_le c, ?_⟩
  obtain ⟨Rm, pm⟩ := mut_ok (o := .lst (xs ++ [y])) (s' := .ol (ds ++ [d])) E3.rl e5 rfl ev ⟨a0, _, rfl, ga, upd_same, da.app (.cons E3.res .nil)⟩ rfl
  exact q .non G3 _ ⟨Rm, (E1.st.trans E3.st).trans pm, .non⟩
theorem de_extend (ho : DE X o f) (he : DE X e g)
    (hbase : attributeBase o "extend" X.env (eval o X.env) = eval o X.env := by rfl)
    (hfew : ((backTo cpos (starEach [e] X.env)).all (fun x => !x.1) && (backToKw cpos (keywordEach [] X.env)).all (fun x => x.1.isSome) && decide (([e] : List Expr).length + ([] : List Keyword).length + (if ([] : List Keyword).isEmpty then 0 else 1) < 30)) = true := by rfl)
    (hline : (apos.endLine == cpos.line) = true := by rfl) (hs : starEach [e] X.env = (false, eval e X.env) :: starEach [] X.env := by rfl) :
    DE X (.Call (.Attribute o "extend" apos) [e] [] cpos) (extF f g) := by
  obtain ⟨tf, pf, sf⟩ := ho
  obtain ⟨tg, pg, sg⟩ := he
  refine ⟨_, pe_bm PySem.F.plainAttrs_list PySem.F.slot_list_extend PySem.F.type_list_extend mt_extend pf (pa_cons pg pa_nil hs) hbase hfew hline hs, fun G ρ σ H s ρ' Q R e q => ?_⟩
  obtain ⟨⟨s1, ρ1⟩, e1, e⟩ := of_bind e
  obtain ⟨i, e2, e⟩ := of_bind e
  obtain ⟨ds0, e0, e⟩ := of_bind e
  obtain ⟨⟨s3, ρ3⟩, e3, e⟩ := of_bind e
  obtain ⟨⟨d, ρ4⟩, e4, e⟩ := of_bind e
  obtain ⟨es, e6, e⟩ := of_bind e
  obtain ⟨ds, e5, e⟩ := of_bind e
  obtain ⟨c, e⟩ := of_ite e
  cases e
  have e0 := cellL_ok e0
  have e5 := cellL_ok e5
  refine sf G ρ σ H _ ρ1 _ R e1 fun v G1 H1 E1 => ?_
  have r1 := E1.res
  rw [show s1 = S.al i from alS_ok e2] at r1
  have ev : σ[i]? = some (some v) := r1
  obtain ⟨v', ev', a0, xs0, ea0, _, ha0, _⟩ := E1.rl.slot i _ e0
  rw [ev] at ev'
  cases ev'
  subst ea0
  refine ⟨list_ty ha0, ?_⟩
  refine sg G1 ρ1 σ H1 s3 ρ3 _ E1.rl e3 fun y G2 H2 E2 => ?_
  obtain ⟨G3, E3⟩ := frz_ok E2 e4
  obtain ⟨v', ev', a, xs, ea, ga, ha, da⟩ := E3.rl.slot i _ e5
  rw [ev] at ev'
  cases ev'
  cases ea
  have r3 := E3.res
  cases d with
  | list es' =>
    cases e6
    cases (show Dq X.K G3 y (.list es) from r3) with
    | lst h1 h2 =>
      rename_i b zs
      refine ⟨a0, b, xs, zs, rfl, rfl, ha, E3.rl.sub _ _ h1, by rw [da.len, h2.len]; exact okN_le c, ?_⟩
      obtain ⟨Rm, pm⟩ := mut_ok (o := .lst (xs ++ zs)) (s' := .ol (ds ++ es)) E3.rl e5 rfl ev ⟨a0, _, rfl, ga, upd_same, da.app h2⟩ rfl
      exact q .non G3 _ ⟨Rm, (E1.st.trans E3.st).trans pm, .non⟩
  | _ => cases e6
end

/-! ### dicts by written keys -/
def keyD : PyData → Option Key
  | .int i => some (.inl i)
  | .str x => some (.inr x)
  | _ => none
theorem keyD_ok {K : PySem.W.Frag} {G : Hp} {v : V} {d : PyData} {k : Key} (h : Dq K G v d) (e : keyD d = some k) : v = kV k := by
  cases d with
  | int i => cases e; cases h; rfl
  | str i => cases e; cases h; rfl
  | _ => cases e
def valD (kvs : List (Key × PyData)) (k : Key) : Option PyData := (kvs.find? fun kv => decide (kv.1 = k)).map (·.2)
def putD (kvs : List (Key × PyData)) (k : Key) (v : PyData) : List (Key × PyData) :=
  if (kvs.any fun kv => decide (kv.1 = k)) = true then kvs.map (fun kv => if kv.1 = k then (kv.1, v) else kv) else kvs ++ [(k, v)]
theorem kd_len {K : PySem.W.Frag} {G : Hp} {ys : List (Key × V)} {kvs : List (Key × PyData)} (h : KD K G ys kvs) : ys.length = kvs.length := Paired.length h
theorem kd_val {K : PySem.W.Frag} {G : Hp} {k : Key} {d : PyData} : ∀ {ys : List (Key × V)} {kvs : List (Key × PyData)}, KD K G ys kvs → valD kvs k = some d → ∃ v, valV ys k = some v ∧ Dq K G v d
  | _, _, .nil, e => by cases e
  | (k1, v1) :: ys, (k2, d2) :: kvs, .cons ⟨h1, h2⟩ t, e => by
    have h1 : k1 = k2 := h1
    subst h1
    unfold valD at e
    rw [List.find?_cons] at e
    by_cases c : k1 = k
    · simp only [c, decide_true, Option.map_some, Option.some.injEq] at e
      subst e
      exact ⟨v1, valV_pos c, h2⟩
    · simp only [c, decide_false] at e
      obtain ⟨v, e1, r⟩ := kd_val t e
      exact ⟨v, by rw [valV_neg c]; exact e1, r⟩
theorem kd_any {K : PySem.W.Frag} {G : Hp} {k : Key} : ∀ {ys : List (Key × V)} {kvs : List (Key × PyData)}, KD K G ys kvs → (ys.any fun kv => decide (kv.1 = k)) = (kvs.any fun kv => decide (kv.1 = k))
  | _, _, .nil => rfl
  | (k1, v1) :: ys, (k2, d2) :: kvs, .cons ⟨h1, h2⟩ t => by
    have h1 : k1 = k2 := h1
    subst h1
    rw [List.any_cons, List.any_cons, kd_any t]
theorem kd_map {K : PySem.W.Frag} {G : Hp} {k : Key} {v : V} {d : PyData} (r : Dq K G v d) : ∀ {ys : List (Key × V)} {kvs : List (Key × PyData)}, KD K G ys kvs → KD K G (ys.map fun kv => if kv.1 = k then (kv.1, v) else kv) (kvs.map fun kv => if kv.1 = k then (kv.1, d) else kv)
  | _, _, .nil => .nil
  | (k1, v1) :: ys, (k2, d2) :: kvs, .cons ⟨h1, h2⟩ t => by
    have h1 : k1 = k2 := h1
    subst h1
    refine .cons ?_ (kd_map r t)
    by_cases c : k1 = k
    · simp only [c, if_true]; exact ⟨True.intro, r⟩
    · simp only [c, if_false]; exact ⟨True.intro, h2⟩
theorem kd_put {K : PySem.W.Frag} {G : Hp} {k : Key} {v : V} {d : PyData} (r : Dq K G v d) {ys : List (Key × V)} {kvs : List (Key × PyData)} (h : KD K G ys kvs) : KD K G (putK ys k v) (putD kvs k d) := by
  unfold putK putD
  rw [kd_any h]
  by_cases c : (kvs.any fun kv => decide (kv.1 = k)) = true
  · rw [if_pos c, if_pos c]
    exact kd_map r h
  · rw [if_neg c, if_neg c]
    exact Paired.app h (.cons ⟨rfl, r⟩ .nil)
/-- d[k] -/
def dgetF (f g : EF) : EF := fun ρ => (f ρ).bind fun p => (alS p.1).bind fun i => (g p.2).bind fun q => (S.peek q.2 q.1).bind fun d => (keyD d).bind fun k => (cellK q.2[i]?).bind fun kvs => (valD kvs k).map fun x => (.fz x, q.2)
/-- d[k] = v: the value first -/
def dputF (f g h : EF) : SF := fun ρ => (h ρ).bind fun r => (S.frz r.2 r.1).bind fun r => (f r.2).bind fun p => (alS p.1).bind fun i => (g p.2).bind fun q => (S.peek q.2 q.1).bind fun d => (keyD d).bind fun k => (cellK q.2[i]?).bind fun kvs =>
  if okN (kvs.length + 1) then some (.nx (q.2.set i (some (.od (putD kvs k r.1))))) else none
section
variable {X : Cx} {o i e : Expr} {pos pos' : Pos} {f g h : EF}
theorem pk_key {K : PySem.W.Frag} {G H : Hp} {v : V} {d : PyData} {k : Key} (h : PkR K G H v d) (e : keyD d = some k) : v = kV k := by
  rcases h with h | ⟨a, xs, ds, e1, e2, _, _⟩
  · exact keyD_ok h e
  · subst e2; cases e
theorem de_dget (hu : X.A.units + 1 < cLine) (ho : DE X o f) (hi : DE X i g) (hs : NoSl i) : DE X (.Subscript o i pos) (dgetF f g) := by
  obtain ⟨tf, pf, sf⟩ := ho
  obtain ⟨tg, pg, sg⟩ := hi
  refine ⟨_, pe_dget hu pf pg hs, fun G ρ σ H s ρ' Q R e q => ?_⟩
  obtain ⟨⟨s1, ρ1⟩, e1, e⟩ := of_bind e
  obtain ⟨i, e2, e⟩ := of_bind e
  obtain ⟨⟨s3, ρ3⟩, e3, e⟩ := of_bind e
  obtain ⟨d, e4, e⟩ := of_bind e
  obtain ⟨k, e5, e⟩ := of_bind e
  obtain ⟨kvs, e6, e⟩ := of_bind e
  obtain ⟨x, e7, e⟩ := of_map e
  cases e
  have e6 := cellK_ok e6
  refine sf G ρ σ H _ ρ1 _ R e1 fun v G1 H1 E1 => ?_
  have r1 := E1.res
  rw [show s1 = S.al i from alS_ok e2] at r1
  have ev : σ[i]? = some (some v) := r1
  refine sg G1 ρ1 σ H1 s3 ρ3 _ E1.rl e3 fun y G2 H2 E2 => ?_
  have ky := pk_key (peek_ok E2.rl E2.res e4) e5
  obtain ⟨v', ev', a, ys, ea, ga, ha, da⟩ := E2.rl.slot i _ e6
  rw [ev] at ev'
  cases ev'
  subst ea ky
  obtain ⟨z, ez, rz⟩ := kd_val da e7
  refine ⟨a, z, rfl, ?_, q z G2 H2 ⟨E2.rl, E1.st.trans E2.st, rz⟩⟩
  rw [← ez]
  exact DGet.k ha
theorem ds_dput {pm : Nat → Bool} (hu : X.A.units + 1 < cLine) (ho : DE X o f) (hi : DE X i g) (hv : DE X e h) (hs : swapsWith e (some (.Subscript o i pos')) pos.line X.env = pure false := by rfl) : DS pm X (.Assign [.Subscript o i pos'] e pos) (dputF f g h) := by
  obtain ⟨tf, pf, sf⟩ := ho
  obtain ⟨tg, pg, sg⟩ := hi
  obtain ⟨th, ph, sh⟩ := hv
  refine ⟨_, ps_dput hu pf pg ph hs, fun G ρ σ H o D R e q => ?_⟩
  obtain ⟨⟨s0, ρ0⟩, e0, e⟩ := of_bind e
  obtain ⟨⟨d0, ρ00⟩, e00, e⟩ := of_bind e
  obtain ⟨⟨s1, ρ1⟩, e1, e⟩ := of_bind e
  obtain ⟨i, e2, e⟩ := of_bind e
  obtain ⟨⟨s3, ρ3⟩, e3, e⟩ := of_bind e
  obtain ⟨d, e4, e⟩ := of_bind e
  obtain ⟨k, e5, e⟩ := of_bind e
  obtain ⟨kvs, e6, e⟩ := of_bind e
  obtain ⟨c, e⟩ := of_ite e
  subst e
  have e6 := cellK_ok e6
  refine sh G ρ σ H s0 ρ0 _ R e0 fun x G0 H0 E0 => ?_
  obtain ⟨G00, E00⟩ := frz_ok E0 e00
  refine sf G00 ρ00 σ H0 _ ρ1 _ E00.rl e1 fun v G1 H1 E1 => ?_
  have r1 := E1.res
  rw [show s1 = S.al i from alS_ok e2] at r1
  have ev : σ[i]? = some (some v) := r1
  refine sg G1 ρ1 σ H1 s3 ρ3 _ E1.rl e3 fun y G2 H2 E2 => ?_
  have ky := pk_key (peek_ok E2.rl E2.res e4) e5
  obtain ⟨v', ev', a, ys, ea, ga, ha, da⟩ := E2.rl.slot i _ e6
  rw [ev] at ev'
  cases ev'
  subst ea ky
  have rx : Dq X.K G2 x d0 := dq_up (E1.st.sub.trans E2.st.sub) d0 E00.res
  refine ⟨a, _, rfl, DPut.k ha (by rw [kd_len da]; exact okN_le c), ?_⟩
  obtain ⟨Rm, pm'⟩ := mut_ok (o := .dK (putK ys k x)) (s' := .od (putD kvs k d0)) E2.rl e6 rfl ev ⟨a, _, rfl, ga, upd_same, kd_put rx da⟩ rfl
  exact q G2 σ _ Rm (((E00.st.trans E1.st).trans E2.st).trans pm') fun _ _ => rfl
end

/-! ### {'k': e, ..} -/
abbrev KF := PSt → Option (List (Key × PyData) × PSt)
def kNil : KF := fun ρ => some ([], ρ)
def kCons (x : Str) (f : EF) (g : KF) : KF := fun ρ => (f ρ).bind fun p => (S.frz p.2 p.1).bind fun q => (g q.2).map fun r => ((.inr x, q.1) :: r.1, r.2)
def DPs (X : Cx) (pos : Pos) (keys : List (Option Expr)) (values : List Expr) (f : KF) : Prop :=
  ∃ trs, PPs X pos keys values trs ∧ ∀ (G : Hp) (ρ : PSt) (σ : L2.St) (H : Hp) (out : List (Key × PyData)) (ρ' : PSt) (Q : List (V × V) → Hp → Prop), Rl X.K G ρ σ H → f ρ = some (out, ρ') →
    (∀ (kvs : List (Key × V)) G' H', Rl X.K G' ρ' σ H' → Stp G ρ σ H G' ρ' σ H' → KD X.K G' kvs out → Q (kvs.map fun kv => (kV kv.1, kv.2)) H') → tPairs trs σ H Q
section
variable {X : Cx} {pos : Pos}
theorem dps_nil : DPs X pos [] [] kNil := ⟨[], pps_nil, fun G ρ σ H out ρ' Q R e q => by cases e; exact q [] G H R Stp.rfl .nil⟩
theorem dps_cons {x : Str} {j : Nat} {p : Pos} {v : Expr} {ks : List (Option Expr)} {vs : List Expr} {f : EF} {g : KF} (hv : DE X v f) (hr : DPs X pos ks vs g) : DPs X pos (some (.Constant (.str x) j p) :: ks) (v :: vs) (kCons x f g) := by
  obtain ⟨t, pv, sv⟩ := hv
  obtain ⟨trs, pr, sr⟩ := hr
  refine ⟨_, pps_cons pe_str pv pr, fun G ρ σ H out ρ' Q R e q => ?_⟩
  obtain ⟨⟨s1, ρ1⟩, e1, e⟩ := of_bind e
  obtain ⟨⟨d, ρ2⟩, e2, e⟩ := of_bind e
  obtain ⟨⟨out', ρ3⟩, e3, e⟩ := of_map e
  cases e
  refine sv G ρ σ H s1 ρ1 _ R e1 fun v G1 H1 E1 => ?_
  obtain ⟨G2, E2⟩ := frz_ok E1 e2
  exact sr G2 ρ2 σ H1 out' ρ3 _ E2.rl e3 fun kvs G3 H3 R3 p3 k3 => q ((.inr x, v) :: kvs) G3 H3 R3 (E2.st.trans p3) (.cons ⟨rfl, dq_up p3.sub d E2.res⟩ k3)
def mergeD (kvs : List (Key × PyData)) : List (Key × PyData) := kvs.foldl (fun acc kv => putD acc kv.1 kv.2) []
theorem kd_merge {K : PySem.W.Frag} {G : Hp} : ∀ {ys : List (Key × V)} {kvs : List (Key × PyData)}, KD K G ys kvs → ∀ {as : List (Key × V)} {bs : List (Key × PyData)}, KD K G as bs → KD K G (ys.foldl (fun acc kv => putK acc kv.1 kv.2) as) (kvs.foldl (fun acc kv => putD acc kv.1 kv.2) bs)
  | _, _, .nil, _, _, h => h
  | (k1, v1) :: ys, (k2, d2) :: kvs, .cons ⟨h1, h2⟩ t, as, bs, h => by
    have h1 : k1 = k2 := h1
    subst h1
    exact kd_merge t (kd_put h2 h)
def dispF (g : KF) : EF := fun ρ => (g ρ).map fun p => (.od (mergeD p.1), p.2)
theorem de_disp {keys : List (Option Expr)} {values : List Expr} {g : KF} (h : DPs X pos keys values g) (hl : ∀ ρ out ρ', g ρ = some (out, ρ') → out.length ≤ 15) (hall : keys.all (·.isSome) = true := by rfl) (hlen : keys.length = values.length := by rfl) (h0 : keys ≠ [] := by simp) (h15 : keys.length ≤ 15 := by decide) : DE X (.Dict keys values pos) (dispF g) := by
  obtain ⟨trs, pp, sp⟩ := h
  refine ⟨_, pe_disp pp hall hlen h0 h15, fun G ρ σ H s ρ' Q R e q => ?_⟩
  obtain ⟨⟨out, ρ1⟩, e1, e⟩ := of_map e
  cases e
  intro p hp
  have g0 : G p = none := none_back R.sub hp
  have np : ∀ {ρ : PSt} {σ : L2.St} {G : Hp}, Rl X.K G ρ σ H → ¬ Own ρ σ p := fun R z => by
    obtain ⟨_, u, e⟩ := R.own_at z
    rw [hp] at e; cases e
  have R0 : Rl X.K G ρ σ (upd H p (.dK [])) := R.out g0 (np R)
  refine sp G ρ σ (upd H p (.dK [])) out ρ1 _ R0 e1 fun kvs G1 H1 R1 p1 k1 => ?_
  have h1 : H1 p = some (.dK []) := p1.keep p _ upd_same (np R)
  have n1 : ¬ Own ρ1 σ p := fun z => by
    rcases p1.own p z with z | z
    · exact np R z
    · rw [upd_same] at z; cases z
  have g1 : G1 p = none := by
    cases eq : G1 p with
    | none => rfl
    | some u =>
      rcases p1.nw p u eq with z | z | z
      · rw [g0] at z; cases z
      · rw [upd_same] at z; cases z
      · exact absurd z (np R)
  refine ⟨h1, kvs, rfl, by rw [kd_len k1]; exact hl _ _ _ e1, ?_⟩
  have st : Stp G ρ σ H G1 ρ1 σ (upd H1 p (.dK (mergeK [] kvs))) := by
    refine ⟨p1.sub, fun a o e => ?_, fun a o e n => ?_, fun a z => ?_, fun a z => ?_⟩
    · rcases p1.nw a o e with w | w | w
      · exact .inl w
      · by_cases ea : a = p
        · subst ea; rw [g1] at e; cases e
        · rw [upd_ne ea] at w; exact .inr (.inl w)
      · exact .inr (.inr w)
    · have ea : a ≠ p := ne_of_none e hp
      rw [upd_ne ea]
      exact p1.keep a o (by rw [upd_ne ea]; exact e) n
    · rcases p1.own a z with w | w
      · exact .inl w
      · by_cases ea : a = p
        · subst ea; exact absurd z n1
        · rw [upd_ne ea] at w; exact .inr w
    · by_cases ea : a = p
      · subst ea; rw [upd_same]; exact fun z => nomatch z
      · rw [upd_ne ea]; exact p1.th a (by rw [upd_ne ea]; exact z)
  exact q (.ref p) G1 _ ⟨R1.out g1 n1, st, ⟨p, _, rfl, g1, upd_same, kd_merge k1 .nil⟩, fun a ea => by cases ea; exact ⟨hp, n1⟩⟩
end

/-! ### repr of lists and tuples -/
theorem hasD {K : PySem.W.Frag} {H : Hp} : ∀ (d : PyData) {v : V}, Dq K H v d → d.hasDict = false := by
  intro d
  have key : ∀ (d : PyData), (∀ v : V, Dq K H v d → d.hasDict = false) := fun d => by
    apply PyData.rec (motive_1 := fun d => ∀ v : V, Dq K H v d → d.hasDict = false) (motive_2 := fun ds => ∀ vs : List V, DqAll K H vs ds → PyData.hasDictAll ds = false) (motive_3 := fun _ => True) (motive_4 := fun _ => True)
    · intro v h; simp [PyData.hasDict]
    · intro b v h; simp [PyData.hasDict]
    · intro i v h; simp [PyData.hasDict]
    · intro s v h; simp [PyData.hasDict]
    · intro xs ih v h
      cases h with
      | lst _ h2 => rw [PyData.hasDict]; exact ih _ h2
    · intro xs ih v h
      cases h with
      | tup _ h2 => rw [PyData.hasDict]; exact ih _ h2
    · intro kvs _ v h; cases h
    · intro vs h; simp [PyData.hasDictAll]
    · intro x xs ih1 ih2 vs h
      cases h with
      | cons h1 h2 => rw [PyData.hasDictAll, ih1 _ h1, ih2 _ h2]; rfl
    · trivial
    · intros; trivial
    · intros; trivial
  exact fun {v} h => key d v h
section
variable {X : Cx}
def isRefD : PyData → Bool
  | .list _ => true
  | .tuple _ => true
  | _ => false
mutual
def logI (B : Nat) : PyData → Bool
  | .none => true
  | .bool _ => true
  | .int i => decide (i.natAbs.log2 < B)
  | .str _ => true
  | .list ds => logIs B ds
  | .tuple ds => logIs B ds
  | .dict _ => true
def logIs (B : Nat) : List PyData → Bool
  | [] => true
  | d :: ds => logI B d && logIs B ds
end
mutual
theorem logI_short : ∀ d : PyData, logI 200 d = true → d.intsShort 201 = true
  | .none, _ => rfl
  | .bool _, _ => rfl
  | .str _, _ => rfl
  | .dict _, _ => rfl
  | .int i, h => by
    rw [logI] at h
    simp only [PyData.intsShort, decide_eq_true_eq, PyData.shown_int]
    exact Nat.le_trans (Nat.le_of_eq (PySem.ofString_length _)) (int_text_length_le (k := 200) (by decide) (of_decide_eq_true h))
  | .list xs, h => by
    rw [logI] at h
    rw [PyData.intsShort]
    exact logIs_short xs h
  | .tuple xs, h => by
    rw [logI] at h
    rw [PyData.intsShort]
    exact logIs_short xs h
theorem logIs_short : ∀ ds : List PyData, logIs 200 ds = true → PyData.intsShortAll 201 ds = true
  | [], _ => rfl
  | d :: ds, h => by
    rw [logIs, Bool.and_eq_true] at h
    rw [PyData.intsShortAll, logI_short d h.1, logIs_short ds h.2]
    rfl
end
/-- what repr asks: ints that can be written, depth and length -/
def okRep (d : PyData) : Bool := isRefD d && (d.showable && (d.canLay0 && (decide (d.depth ≤ 60) && (decide (d.bulk ≤ 8000) || (logI 200 d && decide (d.bulk ≤ 60000))))))
mutual
theorem short_of : ∀ d : PyData, d.showable = true → d.intsShort 1921 = true
  | .none, _ => rfl
  | .bool _, _ => rfl
  | .str _, _ => rfl
  | .dict _, _ => rfl
  | .int i, h => by
    have h' : i.natAbs.log2 < 1920 := by simpa only [PyData.showable, decide_eq_true_eq] using h
    simp only [PyData.intsShort, decide_eq_true_eq, PyData.shown_int]
    have e := int_text_length_le (k := 1920) (by decide) h'
    exact Nat.le_trans (Nat.le_of_eq (PySem.ofString_length _)) e
  | .list xs, h => by
    rw [PyData.showable] at h
    rw [PyData.intsShort]
    exact short_all xs h
  | .tuple xs, h => by
    rw [PyData.showable] at h
    rw [PyData.intsShort]
    exact short_all xs h
theorem short_all : ∀ ds : List PyData, PyData.showableAll ds = true → PyData.intsShortAll 1921 ds = true
  | [], _ => rfl
  | d :: ds, h => by
    rw [PyData.showableAll, Bool.and_eq_true] at h
    rw [PyData.intsShortAll, short_of d h.1, short_all ds h.2]
    rfl
end
theorem okRep_len {d : PyData} (h : okRep d = true) : isRefD d = true ∧ d.showable = true ∧ d.depth ≤ 60 ∧ d.shown.length ≤ sizeLine := by
  simp only [okRep, Bool.and_eq_true, Bool.or_eq_true, decide_eq_true_eq] at h
  obtain ⟨h1, h2, h3, h4, h5⟩ := h
  refine ⟨h1, h2, h4, ?_⟩
  rcases h5 with h5 | ⟨h6, h5⟩
  rotate_left
  · have a := PyData.shown_le_bulk 201 (by decide) d (PyData.leavesShort_of_canLay0 201 d h3 (logI_short d h6))
    have b : (201 + 2) * d.bulk ≤ 203 * 60000 := Nat.mul_le_mul (by omega) h5
    rw [sizeLine_eq]
    omega
  have a := PyData.shown_le_bulk 1921 (by decide) d (PyData.leavesShort_of_canLay0 1921 d h3 (short_of d h2))
  have b : (1921 + 2) * d.bulk ≤ 1923 * 8000 := Nat.mul_le_mul (by omega) h5
  rw [sizeLine_eq]
  omega
theorem call_reprD (hg : X.A.guards = some []) (hu : X.A.units + 64 < cLine) : CallR X (.builtin "repr") (fun xs H Q => ∃ (a : Addr) (d : PyData), xs = [.ref a] ∧ Dq X.K H (.ref a) d ∧ okRep d = true ∧ Q (.str d.shown) H) := by
  intro pins s σ H xs us Q I r h
  obtain ⟨a, d, rfl, hd, c, q⟩ := h
  obtain ⟨_, h1, h2, h3⟩ := okRep_len c
  have nd := hasD d hd
  match us, r with
  | [u], .cons ru .nil =>
    obtain rfl : u = .ref a := ru
    obtain ⟨as, rd⟩ := Dp.reads I d (.ref a) (.ref a) (Dq.dp d hd) rfl
    exact repr_of_reads' rd h1 (PyData.noDict_hsm nd) hg (by omega) (fun _ _ e => e) (fun h' u tk hk => ⟨.str d.shown, H, I.kept (t' := tk) hk, ⟨_, rfl⟩, q⟩) h3
end
/-- the text of data -/
def shownD (d : PyData) : Str := d.shown
def gRepr : List PyData → Option S
  | [d] => if okRep d then some (.fz (.str (shownD d))) else none
  | _ => none
section
variable {X : Cx}
theorem dcl_repr (hg : X.A.guards = some []) (hu : X.A.units + 64 < cLine) : DCl X (.builtin "repr") gRepr := by
  refine ⟨_, call_reprD hg hu, fun G H vs ds s Q sg pk eg q => ?_⟩
  match ds, pk with
  | [d], .cons h .nil =>
    by_cases c : okRep d = true
    · rw [show gRepr [d] = _ from if_pos c] at eg
      cases eg
      have hd := h.dq sg
      have := (okRep_len c).1
      cases d with
      | list ds =>
        obtain ⟨a, xs, ea, _, _⟩ := h.list sg
        subst ea
        exact ⟨a, _, rfl, hd, c, q _ G H (.same sg (.str _))⟩
      | tuple ds =>
        obtain ⟨a, xs, ea, _, _, _⟩ := h.tup sg
        subst ea
        exact ⟨a, _, rfl, hd, c, q _ G H (.same sg (.str _))⟩
      | _ => cases this
    · rw [show gRepr [d] = _ from if_neg c] at eg
      cases eg
end

/-! ### isinstance(x, T) -/
def tyD : PyData → String
  | .none => "NoneType"
  | .bool _ => "bool"
  | .int _ => "int"
  | .str _ => "str"
  | .list _ => "list"
  | .tuple _ => "tuple"
  | .dict _ => "dict"
theorem tyX_of {K : PySem.W.Frag} {G H : Hp} {v : V} {d : PyData} (sg : Sub G H) (h : PkR K G H v d) : TyX K H v (.type (tyD d)) := by
  cases d with
  | none => rw [h.none]; exact .base .non
  | bool b => rw [h.bool]; exact .base (.bl b)
  | int b => rw [h.int]; exact .base (.int b)
  | str b => rw [h.str]; exact .base (.str b)
  | list ds =>
    obtain ⟨a, xs, ea, ha, _⟩ := h.list sg
    subst ea
    exact .base (.lst ha)
  | tuple ds =>
    obtain ⟨a, xs, ea, ha, _, _⟩ := h.tup sg
    subst ea
    rcases ha with (ha | ⟨o, ha⟩) | ⟨o, its, n, hk, hc, _⟩
    · exact .base (.tup ha)
    · exact .fTuple ha
    · exact .kTuple hk hc
  | dict kvs =>
    rcases h with h | ⟨_, _, _, _, e, _⟩
    · cases h
    · cases e
def isiF (T : String) (f : EF) : EF := fun ρ => (f ρ).bind fun p => (argS p.1 p.2).bind fun q => (S.peek q.2 q.1).bind fun d => (kitB (tyD d) T).map fun b => (.fz (.bool b), q.2)
section
variable {X : Cx} {pos : Pos}
theorem de_isi {T : Str} {e : Expr} {f : EF} {p p2 : Pos} {Ts : String} (hT : T = Str.ofString Ts) (he : DE X e f) (hg : Gl X "isinstance") (hm : X.mg "isinstance" = none) (hg2 : Gl X T) (hm2 : X.mg T = none) (hv : bootBuiltins "isinstance" = some (.builtin "isinstance")) (hv2 : bootBuiltins T = some (.type Ts))
    (hst : starEach [e, .Name T p2] X.env = (false, eval e X.env) :: starEach [.Name T p2] X.env := by rfl) (hst2 : starEach [.Name T p2] X.env = (false, eval (.Name T p2) X.env) :: starEach [] X.env := by rfl) (hpl : (backTo pos (starEach [.Name T p2] X.env)).any (·.1) = false := by rfl)
    (hn2 : T ≠ "__name__" := by decide) (hdb2 : (T == ("__debug__" : Str)) = false := by decide) : DE X (.Call (.Name "isinstance" p) [e, .Name T p2] [] pos) (isiF Ts f) := by
  obtain ⟨t, pe, se⟩ := he
  have pT : PE X (.Name T p2) (tC (.ty Ts)) := pe_bltn hg2 hm2 hv2 rfl hn2 hdb2
  refine ⟨_, pe_callB call_isi hg hm hv (pa_cons pe (pa_cons pT pa_nil hst2) hst) (by decide) (by decide) hst hpl, fun G ρ σ H s ρ' Q R e q => ?_⟩
  obtain ⟨⟨s1, ρ1⟩, e1, e⟩ := of_bind e
  obtain ⟨⟨s2, ρ2⟩, e2, e⟩ := of_bind e
  obtain ⟨d, e3, e⟩ := of_bind e
  obtain ⟨b, e4, e⟩ := of_map e
  cases e
  refine se G ρ σ H s1 ρ1 _ R e1 fun v G1 H1 E1 => ?_
  obtain ⟨G2, R2, p2, a2⟩ := argS_ok E1 e2
  have pk := peek_ok (H := H1) R2 a2.res e3
  exact ⟨v, .ty Ts, _, _, b, rfl, .ty Ts, tyX_of R2.sub pk, kit_ty e4, q _ G2 H1 ⟨R2, p2, .bl b⟩⟩
end
end DL

/-! D8: the law's own call; more of what programs write. -/
namespace DL
open L2 PySem PySem.Spec PyProof.Rows

/-- the script alone may be tracked: then the base is the heap without it -/
theorem law_core {P : Program} {w : World} {K : PySem.W.Frag} {mg mb : Str → Option Value} {k : Nat} {fa a : Addr} {fd : FuncData} {x : Str} {g : FF} {s1 : Shared} {vs : List Value} {ns : List Int} {H : Hp}
    (kin : K.In s1.heap) (gl : s1.heap.Ns mainGlobals mg) (bl : s1.heap.Ns builtinsNs mb) (bb : ∀ x : Str, x ≠ "__name__" → mb x = bootBuiltins x) (lim : s1.heap.NoLimit) (gens : s1.gens = #[])
    (ha : s1.heap.get? a = some { cls := .type "list", data := .seq vs.toArray }) (hr : Room k callerA) (F : ∀ base : Heap, K.In base → base.Ns mainGlobals mg → DFb P w K mg base k fa fd [x] [] g)
    (hbind : ∀ (s : Shared) (u : Value), BindsTo s fd ⟨[u], []⟩ [(x, u)]) (hg : g [.sc ns] = some (.fz (.bool true), [.sc ns])) (sq : SqL K H a (ns.map V.int)) (hok : HOk P w H s1.heap)
    (only : ∀ b u, H b = some u → b = a ∧ ∃ o z, u = .frz o (.lst z)) (out : ∀ u, H a = some u → K.lookup a = none) :
    codeAny (model P w) callerA (.call (.ref fa) ⟨[.ref a], []⟩) (fun r s' => r = .ok (.ret (.bool true)) ∧ OldK s1.heap s'.heap ∧ s'.os = s1.os ∧ AllBare s'.gens) s1 := by
  have notH : ∀ {b : Addr} {o : Obj} {es : Array DictEntry} {ep : Nat}, s1.heap.get? b = some o → o.data = .dict es ep → H b = none := fun {b o es ep} e d => by
    rcases q : H b with _ | u
    · rfl
    · have eb := (only b u q).1
      subst eb
      rw [ha] at e
      cases e
      cases d
  have ns' : ∀ {b : Addr} {m : Str → Option Value}, s1.heap.Ns b m → (hidT s1.heap H).Ns b m := fun h => by
    obtain ⟨o, es, ep, e, d, r⟩ := h
    exact ⟨o, es, ep, hidT_get e (notH e d), d, r⟩
  have kin' : K.In (hidT s1.heap H) := fun b o e => hidT_get (kin b o e) (by
    rcases q : H b with _ | u
    · rfl
    · have eb := (only b u q).1
      subst eb
      rw [out u q] at e
      cases e)
  have e0 : Env0 P w K mg (hidT s1.heap H) callerA [] s1 H := by
    refine ⟨rfl, ⟨kin', ns' gl, ⟨mb, ns' bl, bb⟩, ?_⟩, fun b o e => of_hidT e, Nat.le_of_eq (hidT_size _ _), trivial, (fun b hb => nomatch (show b ∈ ([] : List Addr) from hb)), hok, .of_eq gens⟩
    obtain ⟨m, h1, h2⟩ := lim
    exact ⟨m, ns' h1, h2⟩
  have R : Rl K H (ags [.sc ns]) (vls [.ref a]) H := rl_of Sub.rfl (.cons ⟨a, rfl, sq⟩ .nil) fun s hs => by
    rcases List.mem_cons.mp hs with e | hs
    · subst e; rfl
    · cases hs
  refine codeAny_mono ((F _ kin' (ns' gl)).run callerA [] s1 H ⟨[.ref a], []⟩ [.ref a] [.ref a] [.sc ns] (.fz (.bool true)) [.sc ns] H (fun v _ => v = .bl true) hr rfl e0 (hbind s1 (.ref a)) (.cons rfl .nil) R rfl hg fun v G' H' _ _ rr => ?_) fun r s' h => ?_
  · cases (show Dq K G' v (.bool true) from rr)
    rfl
  · rcases r with e | fl
    · exact h.elim
    · cases fl with
      | ret u =>
        obtain ⟨v, H', os, bare, un, hok', ru, q⟩ := h
        have q : v = .bl true := q
        subst q
        obtain rfl : u = .bool true := ru
        refine ⟨rfl, .of_keep fun b o e => ?_, os, bare⟩
        rcases q : H b with _ | u
        · exact un.keep b o e q (fun z => nomatch (show b ∈ ([] : List Addr) from z)) (fun z => nomatch z)
        · obtain ⟨_, o1, z, eu⟩ := only b u q
          subst eu
          obtain ⟨e1, _⟩ := hok b _ q
          obtain ⟨e2, _⟩ := hok' b _ (un.frzs b o1 _ q)
          rw [e] at e1
          cases e1
          exact e2
      | _ => exact h.elim
theorem law_callD {P : Program} {w : World} {K : PySem.W.Frag} {mg mb : Str → Option Value} {k : Nat} {fa a : Addr} {fd : FuncData} {x : Str} {g : FF} {s1 : Shared} {vs : List Value} {ns : List Int}
    (kin : K.In s1.heap) (gl : s1.heap.Ns mainGlobals mg) (bl : s1.heap.Ns builtinsNs mb) (bb : ∀ x : Str, x ≠ "__name__" → mb x = bootBuiltins x) (lim : s1.heap.NoLimit) (gens : s1.gens = #[])
    (ha : s1.heap.get? a = some { cls := .type "list", data := .seq vs.toArray }) (hi : IntsAre vs ns) (hl : ns.length ≤ sizeLine) (hr : Room k callerA) (F : ∀ base : Heap, K.In base → base.Ns mainGlobals mg → DFb P w K mg base k fa fd [x] [] g)
    (hbind : ∀ (s : Shared) (u : Value), BindsTo s fd ⟨[u], []⟩ [(x, u)]) (hg : g [.sc ns] = some (.fz (.bool true), [.sc ns])) :
    codeAny (model P w) callerA (.call (.ref fa) ⟨[.ref a], []⟩) (fun r s' => r = .ok (.ret (.bool true)) ∧ OldK s1.heap s'.heap ∧ s'.os = s1.os ∧ AllBare s'.gens) s1 := by
  have rv := vals_ints hi
  rcases hk : K.lookup a with _ | o
  · refine law_core (H := fun b => if b = a then some (.frz { cls := .type "list", data := .seq vs.toArray } (.lst (ns.map V.int))) else none) kin gl bl bb lim gens ha hr F hbind hg (.inl (.inr ⟨_, if_pos rfl⟩)) (fun b u e => ?_) (fun b u e => ?_) fun _ _ => hk
    · dsimp only at e
      by_cases hb : b = a
      · rw [if_pos hb] at e
        cases e
        subst hb
        exact ⟨ha, by rw [List.length_map]; exact hl, vs, _, rv, ha⟩
      · rw [if_neg hb] at e
        cases e
    · by_cases hb : b = a
      · rw [if_pos hb] at e
        cases e
        exact ⟨hb, _, _, rfl⟩
      · rw [if_neg hb] at e
        cases e
  · have e := kin a o hk
    rw [ha] at e
    cases e
    refine law_core (H := fun _ => none) kin gl bl bb lim gens ha hr F hbind hg (.inr ⟨_, vs.toArray, _, hk, rfl, rfl, rfl, by rw [List.size_toArray, hi.length]; exact hl, by simpa using rv⟩) (fun b u e => by cases e) (fun b u e => by cases e) fun u e => by cases e
/-- the goal that the head leaves, from the law's def as a function of states -/
theorem walk_D {l : PySem.W.OpenLaw} {n k : Nat} {q : Program} {loose : List Str} {XP : (Str → Option Value) → Heap → Prop} {YP : World → Heap → Prop} {d : DefRec} {K : Params → PySem.W.Frag} {x : Str} {g : FF}
    (hn : l.most = some n) (hn2 : n ≤ sizeLine) (hdf : d.params.defaults = []) (hr : Room k callerA) (hY : ∀ (w : World) (h : Heap), YP w h → (K w.params).In h)
    (F : ∀ (w : World) (mg : Str → Option Value) (fa : Addr) (h : Heap), (K w.params).In h → h.Ns mainGlobals mg → mg d.name = some (.ref fa) →
      ∃ fd : FuncData, (∀ (s : Shared) (u : Value), BindsTo s fd ⟨[u], []⟩ [(x, u)]) ∧ ∀ base : Heap, (K w.params).In base → base.Ns mainGlobals mg → DFb l.prog w (K w.params) mg base k fa fd [x] [] g)
    (hg : ∀ ns : List Int, ns.length ≤ n → g [.sc ns] = some (.fz (.bool true), [.sc ns])) : PySem.W.WalkO q loose XP YP l.row.toRowW d [] (fun f vs => PySem.call f vs) := by
  refine Att.attach_call hn hdf fun w s0 s1 mg mb fa o pm cd doc a vs ns G Y ho hd hcd hmg hobj hints hlen hgen => ?_
  have kin := hY w _ Y
  obtain ⟨fd, hb, hF⟩ := F w mg fa _ kin G.T.g hmg
  exact law_callD kin G.T.g G.T.b G.T.builtins G.T.nolimit hgen hobj hints (Nat.le_trans hlen hn2) hr hF hb (hg ns hlen)
end DL

/-! D9: slices with a step, three names at once. -/
namespace DL
open L2 PySem PySem.Spec PyProof.Rows

/-! ### xs[lo:hi:st] of lists -/
def pickA {α : Type} (xs : List α) (lo hi st : Option Int) : List α := (sliceRange (sliceBounds lo hi st xs.length).1 (sliceBounds lo hi st xs.length).2.1 (sliceBounds lo hi st xs.length).2.2).filterMap (xs[·]?)
theorem places_data {K : PySem.W.Frag} {A : Hp} {vs : List V} {ds : List PyData} (h : DqAll K A vs ds) : ∀ is : List Nat, DqAll K A (is.filterMap (vs[·]?)) (is.filterMap (ds[·]?))
  | [] => .nil
  | i :: is => by
    rw [List.filterMap_cons, List.filterMap_cons]
    cases e : ds[i]? with
    | none =>
      have : vs[i]? = none := by
        rw [List.getElem?_eq_none_iff] at e ⊢
        rw [h.len]; exact e
      rw [this]
      exact places_data h is
    | some d =>
      obtain ⟨v, ev, r⟩ := h.get e
      rw [ev]
      exact .cons r (places_data h is)
theorem places_vals {xs : List V} {us : List Value} (h : Vals xs us) : ∀ is : List Nat, Vals (is.filterMap (xs[·]?)) (is.filterMap (us[·]?))
  | [] => .nil
  | i :: is => by
    rw [List.filterMap_cons, List.filterMap_cons]
    cases e : xs[i]? with
    | none =>
      have : us[i]? = none := by
        rw [List.getElem?_eq_none_iff] at e ⊢
        rw [← h.length]; exact e
      rw [this]
      exact places_vals h is
    | some v =>
      obtain ⟨u, eu, r⟩ := paired_get h e
      rw [eu]
      exact .cons r (places_vals h is)
theorem pick_data {K : PySem.W.Frag} {A : Hp} {vs : List V} {ds : List PyData} (h : DqAll K A vs ds) (lo hi st : Option Int) : DqAll K A (pickA vs lo hi st) (pickA ds lo hi st) := by
  unfold pickA
  rw [h.len]
  exact places_data h _
theorem pick_vals {xs : List V} {us : List Value} (h : Vals xs us) (lo hi st : Option Int) : Vals (pickA xs lo hi st) (slicePick us.toArray lo hi st).toList := by
  have e : (slicePick us.toArray lo hi st).toList = pickA us lo hi st := by
    simp [slicePick, pickA]
  rw [e]
  unfold pickA
  rw [h.length]
  exact places_vals h _
theorem pick_small {us : List Value} {xs : List V} (h : Vals xs us) (lo hi st : Option Int) : (pickA xs lo hi st).length ≤ xs.length := by
  have e := (pick_vals h lo hi st).length
  have s := slicePick_size_le us.toArray lo hi st
  have l := h.length
  simp only [Array.length_toList, List.size_toArray] at e s
  omega
def stF (f : EF) (l h k : PF) : EF := fun ρ => (f ρ).bind fun p => (l p.2).bind fun q => (h q.2).bind fun r => (k r.2).bind fun w => (S.peek w.2 p.1).bind fun d => match d with
  | .list ds => if w.1 == some 0 then none else some (.ol (pickA ds q.1 r.1 w.1), w.2)
  | _ => none
def tSt (K : PySem.W.Frag) (te : TE) (tl th tk : TO) : TE := fun σ H Q => te σ H fun v H1 => tl σ H1 fun l H2 => th σ H2 fun u H3 => tk σ H3 fun w H4 => ∃ a xs, v = .ref a ∧ SqL K H4 a xs ∧ w ≠ some 0 ∧ ∀ p, H4 p = none → Q (.ref p) (upd H4 p (.lst (pickA xs l u w)))
section
variable {X : Cx} {pos : Pos}
theorem pe_sliceS {e st : Expr} {lo hi : Option Expr} {te : TE} {tl th tk : TO} {p2 : Pos} (he : PE X e te) (hl : PO X lo tl) (hu : PO X hi th) (hk : PO X (some st) tk) : PE X (.Subscript e (.Slice lo hi (some st) p2) pos) (tSt X.K te tl th tk) := by
  refine ⟨fun pins s σ H Q I h => ?_⟩
  refine Subscript_ (thn (he.run pins s σ H _ I h) fun v s1 ⟨x, H1, I1, r1, q1⟩ => ?_)
  refine wpAny_Slice (thn (hl.run pins s1 σ H1 _ I1 q1) fun vl s2 ⟨l, H2, I2, pl, q2⟩ => ?_)
  refine thn (hu.run pins s2 σ H2 _ I2 q2) fun vu s3 ⟨u, H3, I3, pu, q3⟩ => ?_
  refine thn (hk.run pins s3 σ H3 _ I3 q3) fun vs s4 ⟨o, H4, I4, ps, q4⟩ => ?_
  obtain ⟨a, xs, ex, hx, h0, q⟩ := q4
  subst ex
  cases r1
  have I5 : Inv X pins σ H4 { s4 with heap := s4.heap.push { cls := .type "slice", data := .fields #[vl, vu, vs] } } := I4.kept (t' := s4.toks) fun b ob q => Heap.get?_push_of_some _ q
  obtain ⟨its, r, ht, hz⟩ := I5.list hx
  have hlen := r.length
  show wpAny (model X.prog X.w) X.A (subscriptTail e (.Slice lo hi (some st) p2) (.ref a) (.ref s4.heap.objs.size)) (EP X pins σ Q) X.xe { s4 with heap := s4.heap.push { cls := .type "slice", data := .fields #[vl, vu, vs] } }
  refine tail_any (ops := [.ref a, .ref s4.heap.objs.size]) ht.isList.typeIs (PySem.slot_list_getitem.lookup) ?_ (by with_unfolding_all rfl)
  refine wpAny_getItem_list_slice ht.isList (Heap.IsSliceOf.new _ vl vu vs) pl pu ps h0 ?_ (by rw [List.size_toArray]; omega)
  refine ⟨.ref _, _, I5.laid (t' := s4.toks) (o := .lst (pickA xs l u o)) (fun b ob q => Heap.get?_push_of_some _ q) (Nat.le_refl _) ?_, rfl, q _ (I5.hok.fresh (Nat.le_refl _))⟩
  exact ⟨Nat.le_trans (pick_small r l u o) hz, (slicePick its.toArray l u o).toList, 0, pick_vals r l u o, Heap.get?_push_size _ rfl⟩
theorem de_sliceS {e st : Expr} {lo hi : Option Expr} {f : EF} {l h k : PF} {p2 : Pos} (he : DE X e f) (hl : DP X lo l) (hh : DP X hi h) (hk : DP X (some st) k) : DE X (.Subscript e (.Slice lo hi (some st) p2) pos) (stF f l h k) := by
  obtain ⟨t, p, s0⟩ := he
  obtain ⟨tl, pl, sl⟩ := hl
  obtain ⟨th, ph, sh⟩ := hh
  obtain ⟨tk, pk, sk⟩ := hk
  refine ⟨_, pe_sliceS p pl ph pk, fun G ρ σ H s ρ' Q R e q => ?_⟩
  obtain ⟨⟨s1, ρ1⟩, e1, e⟩ := of_bind e
  obtain ⟨⟨o2, ρ2⟩, e2, e⟩ := of_bind e
  obtain ⟨⟨o3, ρ3⟩, e3, e⟩ := of_bind e
  obtain ⟨⟨o4, ρ4⟩, e4, e⟩ := of_bind e
  obtain ⟨d, e5, e⟩ := of_bind e
  refine s0 G ρ σ H s1 ρ1 _ R e1 fun v G1 H1 E1 => ?_
  refine sl G1 ρ1 σ H1 o2 ρ2 _ E1.rl e2 fun G2 H2 R2 p2 => ?_
  refine sh G2 ρ2 σ H2 o3 ρ3 _ R2 e3 fun G3 H3 R3 p3 => ?_
  refine sk G3 ρ3 σ H3 o4 ρ4 _ R3 e4 fun G4 H4 R4 p4 => ?_
  have kk := ((E1.res.later p2).later p3).later p4
  have pp := ((E1.st.trans p2).trans p3).trans p4
  have pk := peek_ok R4 kk e5
  cases d with
  | list ds =>
    obtain ⟨a, xs, ea, ha, da⟩ := pk.list R4.sub
    subst ea
    by_cases c : (o4 == some 0) = true
    · have e' : (if (o4 == some 0) = true then none else some (S.ol (pickA ds o2 o3 o4), ρ4)) = some (s, ρ') := e
      rw [if_pos c] at e'
      cases e'
    · have e' : (if (o4 == some 0) = true then none else some (S.ol (pickA ds o2 o3 o4), ρ4)) = some (s, ρ') := e
      rw [if_neg c] at e'
      cases e'
      exact ⟨a, xs, rfl, .of ha, fun z => c (by rw [z]; rfl), fun p n => q _ _ _ (ev_new R4 pp (.lst R4.sub n (pick_data da _ _ _)))⟩
  | _ => cases e

/-! ### a, b, c = x, y, z -/
def parF3 (i j l : Nat) (f : AF) : SF := fun ρ => (f ρ).bind fun p => (frzAll p.1 p.2).bind fun q => match q.1 with
  | [d, e, c] => some (.nx (((q.2.set i (some (.fz d))).set j (some (.fz e))).set l (some (.fz c))))
  | _ => none
theorem ds_par3 {pm : Nat → Bool} {i j l : Nat} {x y z : Str} {a b c : Expr} {f : AF} {px py pz pt : Pos} {kt k2 pt2} (hc : X.calm = true) (hN : X.N.Nodup) (hi : X.N[i]? = some x) (hj : X.N[j]? = some y) (hl : X.N[l]? = some z) (hij : i ≠ j) (hil : i ≠ l) (hjl : j ≠ l)
    (hx : X.env.scope.names.lookup x = some .local) (hy : X.env.scope.names.lookup y = some .local) (hz : X.env.scope.names.lookup z = some .local) (ha : DA X [a, b, c] f) (hpi : pm i = false) (hpj : pm j = false) (hpl : pm l = false)
    (hw : swappedStores [.Tuple [.Name x px, .Name y py, .Name z pz] kt pt] (.Tuple [a, b, c] k2 pt2) X.env = pure (some [x, y, z]))
    (hs : swapsWithSole [.Tuple [.Name x px, .Name y py, .Name z pz] kt pt] (.Tuple [a, b, c] k2 pt2) pos.line X.env = pure false := by rfl) :
    DS pm X (.Assign [.Tuple [.Name x px, .Name y py, .Name z pz] kt pt] (.Tuple [a, b, c] k2 pt2) pos) (parF3 i j l f) := by
  obtain ⟨t, p, s⟩ := ha
  refine ⟨_, ps_par3 hc hN hi hj hl hij hil hjl hx hy hz p hw hs, fun G ρ σ H o D R e q => ?_⟩
  obtain ⟨⟨ss, ρ1⟩, e1, e⟩ := of_bind e
  obtain ⟨⟨ds, ρ2⟩, e2, e⟩ := of_bind e
  refine s G ρ σ H ss ρ1 _ R e1 fun vs G1 H1 R1 p1 a1 => ?_
  obtain ⟨G2, R2, p2, d2, _⟩ := frzAll_ok R1 p1 a1 e2
  match ds, d2, e with
  | [d, e', c'], .cons h1 (.cons h2 (.cons h3 .nil)), e =>
    cases e
    refine ⟨_, _, _, rfl, ?_⟩
    have R3 := ((R2.setFz (i := i) (s := .fz d) rfl h1).setFz (i := j) (s := .fz e') rfl h2).setFz (i := l) (s := .fz c') rfl h3
    exact q G2 _ H1 R3 (((p2.trans (Stp.setFz (s := .fz d) rfl)).trans (Stp.setFz (s := .fz e') rfl)).trans (Stp.setFz (s := .fz c') rfl)) fun m hm => ((par_set hpl m hm).trans (par_set hpj m hm)).trans (par_set hpi m hm)
end
end DL

/-! D10: defs as the head tells them; their call forms; the law's end. -/
namespace DL
open L2 PySem PySem.Spec PyProof.Rows

/-! ### parameters' order -/
/-- (0, i): the i-th positional value; (1, i): the i-th default; (2, i): the i-th keyword -/
def pk3 {α : Type} (us its ws : List α) (p : Nat × Nat) : Option α := match p.1 with
  | 0 => us[p.2]?
  | 1 => its[p.2]?
  | _ => ws[p.2]?
def pkL {α : Type} (ix : List (Nat × Nat)) (us its ws : List α) : List α := ix.filterMap (pk3 us its ws)
theorem paired_at {α β : Type} {R : α → β → Prop} {l : List α} {l' : List β} (h : Paired R l l') (i : Nat) : (l[i]? = none ∧ l'[i]? = none) ∨ ∃ x y, l[i]? = some x ∧ l'[i]? = some y ∧ R x y := by
  cases e : l[i]? with
  | none =>
    refine .inl ⟨rfl, ?_⟩
    rw [List.getElem?_eq_none_iff] at e ⊢
    rw [← paired_len h]; exact e
  | some x =>
    obtain ⟨y, e2, r⟩ := paired_get h e
    exact .inr ⟨x, y, rfl, e2, r⟩
theorem pk3_rel {α β : Type} {R : α → β → Prop} {us its ws : List α} {us' its' ws' : List β} (h1 : Paired R us us') (h2 : Paired R its its') (h3 : Paired R ws ws') (p : Nat × Nat) : (pk3 us its ws p = none ∧ pk3 us' its' ws' p = none) ∨ ∃ x y, pk3 us its ws p = some x ∧ pk3 us' its' ws' p = some y ∧ R x y := by
  obtain ⟨n, i⟩ := p
  match n with
  | 0 => exact paired_at h1 i
  | 1 => exact paired_at h2 i
  | n + 2 => exact paired_at h3 i
theorem pkL_rel {α β : Type} {R : α → β → Prop} {us its ws : List α} {us' its' ws' : List β} (h1 : Paired R us us') (h2 : Paired R its its') (h3 : Paired R ws ws') : ∀ ix : List (Nat × Nat), Paired R (pkL ix us its ws) (pkL ix us' its' ws')
  | [] => .nil
  | p :: ix => by
    unfold pkL
    rw [List.filterMap_cons, List.filterMap_cons]
    rcases pk3_rel h1 h2 h3 p with ⟨e1, e2⟩ | ⟨x, y, e1, e2, r⟩
    · rw [e1, e2]; exact pkL_rel h1 h2 h3 ix
    · rw [e1, e2]; exact .cons r (pkL_rel h1 h2 h3 ix)
theorem pkL_own {us its ws : List S} (h1 : ∀ s ∈ us, s.own = false) (h2 : ∀ s ∈ its, s.own = false) (h3 : ∀ s ∈ ws, s.own = false) (ix : List (Nat × Nat)) : ∀ s ∈ pkL ix us its ws, s.own = false := by
  intro s hs
  unfold pkL at hs
  obtain ⟨⟨n, i⟩, _, e⟩ := List.mem_filterMap.mp hs
  match n with
  | 0 => exact h1 s (List.mem_of_getElem? e)
  | 1 => exact h2 s (List.mem_of_getElem? e)
  | n + 2 => exact h3 s (List.mem_of_getElem? e)
section
variable {P : Program} {w : World} {K : PySem.W.Frag} {mg : Str → Option Value} {base : Heap} {x qual : Str} {params : Arguments} {body : List Stmt} {scope : Scope} {dvs : List V} {kws : List (Str × V)} {f : Addr} {fd : FuncData} {ps : List Str}
/-- keywords, no defaults -/
theorem fd_kb0 (F : FunD K x qual params body scope [] kws f fd) (n : Nat) (ks : List Str) (ix : List (Nat × Nat))
    (h : ∀ (kV doc pm : Value) (an : Option Addr) (cdv ct : Value) (us ws : List Value), us.length = n → ws.length = ks.length → bindArgs (PySem.W.fnOf x qual params body scope .none kV doc pm an cdv ct) ⟨us, ks.zip ws⟩ = pure (ps.zip (pkL ix us [] ws))) :
    KBn K fd ps n ks (fun us ws => pkL ix us [] ws) (fun vs zs => pkL ix vs [] zs) := by
  obtain ⟨oc, od, dV, kV, doc, pm, an, cdv, ct, osl, rfl, lk, hcd, hD, hK⟩ := F.ex
  rcases hD with ⟨_, rfl⟩ | ⟨e, _⟩
  · exact ⟨fun s us ws X l1 l2 => .of_eq (h kV doc pm an cdv ct us ws l1 l2), fun r1 r2 => pkL_rel r1 .nil r2 ix⟩
  · exact absurd rfl e
/-- defaults, keywords or none -/
theorem fd_kb1 (F : FunD K x qual params body scope dvs kws f fd) (n : Nat) (ks : List Str) (ix : List (Nat × Nat)) (hd : dvs ≠ [])
    (h : ∀ (T : Addr) (kV doc pm : Value) (an : Option Addr) (cdv ct : Value) (us its ws : List Value), us.length = n → its.length = dvs.length → ws.length = ks.length →
      ∃ k, bindArgs (PySem.W.fnOf x qual params body scope (.ref T) kV doc pm an cdv ct) ⟨us, ks.zip ws⟩ = seqItems? (.ref T) >>= k ∧ k (some its.toArray) = pure (ps.zip (pkL ix us its ws))) :
    ∃ its : List Value, KBn K fd ps n ks (fun us ws => pkL ix us its ws) (fun vs zs => pkL ix vs dvs zs) := by
  obtain ⟨oc, od, dV, kV, doc, pm, an, cdv, ct, osl, rfl, lk, hcd, hD, hK⟩ := F.ex
  rcases hD with ⟨e, _⟩ | ⟨_, T, o, its, m, rfl, lT, oT, rT⟩
  · exact absurd e hd
  · refine ⟨its, fun s us ws X l1 l2 => ?_, fun r1 r2 => pkL_rel r1 rT r2 ix⟩
    obtain ⟨k, e1, e2⟩ := h T kV doc pm an cdv ct us its ws l1 rT.length.symm l2
    refine BindsTo.of_looks fun M => ?_
    rw [e1]
    exact looks_items X lT oT (.of_pure e2)
/-- a def's body as a function of states -/
theorem fd_dfb {k : Nat} {N : List Str} {md : List Bool} {m : SF} (F : FunD K x qual params body scope dvs kws f fd) (sc : FnScope N ps scope)
    (hb : ∀ (cdv : Value) (A : Around) (outer : List Env) (s : Shared) (H : Hp), Room k (A.deeper (envOfC qual scope s.heap.objs.size f cdv)) → (A.deeper (envOfC qual scope s.heap.objs.size f cdv)).guards = some [] →
      DB (pmOf md) (cxB P w K mg base N qual scope f cdv A outer s H) body m) : DFb P w K mg base (k + 1) f fd ps md (fnF ps.length N.length md m) := by
  obtain ⟨oc, od, dV, kV, doc, pm, an, cdv, ct, osl, rfl, lk, hcd, _, _⟩ := F.ex
  exact dfb_of lk hcd sc fun A outer s H hr hgd => hb cdv A outer s H hr hgd
theorem fd_star {k : Nat} {N : List Str} {pv : Str} {m : SF} (F : FunD K x qual params body scope [] kws f fd) (sc : FnScope N [pv] scope)
    (hbind : ∀ (kV doc pm : Value) (an : Option Addr) (cdv ct : Value) (us : List Value), bindArgs (PySem.W.fnOf x qual params body scope .none kV doc pm an cdv ct) ⟨us, []⟩ = (newTuple us >>= fun t => pure [(pv, t)]))
    (hb : ∀ (cdv : Value) (A : Around) (outer : List Env) (s : Shared) (H : Hp), Room k (A.deeper (envOfC qual scope s.heap.objs.size f cdv)) → (A.deeper (envOfC qual scope s.heap.objs.size f cdv)).guards = some [] →
      DB (pmOf []) (cxB P w K mg base N qual scope f cdv A outer s H) body m) : DFn P w K mg base (k + 1) f [] [] (starF (fnF 1 N.length [] m)) := by
  obtain ⟨oc, od, dV, kV, doc, pm, an, cdv, ct, osl, rfl, lk, hcd, hD, _⟩ := F.ex
  rcases hD with ⟨_, rfl⟩ | ⟨e, _⟩
  · exact dfn_star lk hcd sc (hbind kV doc pm an cdv ct) F.kp fun A outer s H hr hgd => hb cdv A outer s H hr hgd
  · exact absurd rfl e
/-- by positions -/
theorem fd_pos {k np n : Nat} {md : List Bool} {m : SF} (F : FunD K x qual params body scope [] kws f fd) (D : DFb P w K mg base k f fd ps md (fnF np n md m)) (hp : np = ps.length)
    (h : ∀ (kV doc pm : Value) (an : Option Addr) (cdv ct : Value) (us : List Value), us.length = ps.length → bindArgs (PySem.W.fnOf x qual params body scope .none kV doc pm an cdv ct) ⟨us, []⟩ = pure (ps.zip us)) : DFn P w K mg base k f [] md (fnF np n md m) :=
  dfn_pos D (fun as r os e => (fnF_len e).trans hp) (F.bindsN h) F.kp
theorem fd_posG {k : Nat} {md : List Bool} {g : FF} (F : FunD K x qual params body scope [] kws f fd) (D : DFb P w K mg base k f fd ps md g) (hl : ∀ as r os, g as = some (r, os) → as.length = ps.length)
    (h : ∀ (kV doc pm : Value) (an : Option Addr) (cdv ct : Value) (us : List Value), us.length = ps.length → bindArgs (PySem.W.fnOf x qual params body scope .none kV doc pm an cdv ct) ⟨us, []⟩ = pure (ps.zip us)) : DFn P w K mg base k f [] md g :=
  dfn_pos D hl (F.bindsN h) F.kp
/-- what defaults stand for -/
theorem arr_ok {n : Nat} {ks : List Str} {ix : List (Nat × Nat)} {dS : List S} (hd : ∀ G H : Hp, Paired (SlotR K G H) dS dvs) (ho : ∀ s ∈ dS, s.own = false) :
    ∀ (G H : Hp) (as : List S) (vs zs : List V), vs.length = n → zs.length = ks.length → Paired (SlotR K G H) as (vs ++ zs) → (∀ s ∈ as, s.own = false) → Paired (SlotR K G H) (pkL ix (as.take n) dS (as.drop n)) (pkL ix vs dvs zs) ∧ ∀ s ∈ pkL ix (as.take n) dS (as.drop n), s.own = false := by
  intro G H as vs zs l1 l2 h no
  have cut : ∀ {as : List S} {vs zs : List V} {n : Nat}, vs.length = n → Paired (SlotR K G H) as (vs ++ zs) → Paired (SlotR K G H) (as.take n) vs ∧ Paired (SlotR K G H) (as.drop n) zs := by
    intro as vs
    induction vs generalizing as with
    | nil => intro zs n e h; cases e; exact ⟨.nil, h⟩
    | cons v vs ih =>
      intro zs n e h
      cases e
      cases h with
      | cons a b =>
        obtain ⟨h1, h2⟩ := ih rfl b
        exact ⟨.cons a h1, h2⟩
  obtain ⟨h1, h2⟩ := cut l1 h
  exact ⟨pkL_rel h1 (hd G H) h2 ix, pkL_own (fun s hs => no s (List.mem_of_mem_take hs)) ho (fun s hs => no s (List.mem_of_mem_drop hs)) ix⟩
def kwF (n m : Nat) (ix : List (Nat × Nat)) (dS : List S) (g : FF) : FF := arrF (n + m) (fun as => pkL ix (as.take n) dS (as.drop n)) g
theorem fd_kw0 {k n : Nat} {g : FF} {ks : List Str} {ix : List (Nat × Nat)} (F : FunD K x qual params body scope [] kws f fd) (D : DFb P w K mg base k f fd ps [] g)
    (h : ∀ (kV doc pm : Value) (an : Option Addr) (cdv ct : Value) (us ws : List Value), us.length = n → ws.length = ks.length → bindArgs (PySem.W.fnOf x qual params body scope .none kV doc pm an cdv ct) ⟨us, ks.zip ws⟩ = pure (ps.zip (pkL ix us [] ws))) : DFn P w K mg base k f ks [] (kwF n ks.length ix [] g) :=
  dfn_kb D (fd_kb0 F n ks ix h) F.kp (arr_ok (dvs := []) (fun _ _ => .nil) fun _ hs => nomatch hs)
theorem fd_kw1 {k n : Nat} {g : FF} {ks : List Str} {ix : List (Nat × Nat)} {dS : List S} (F : FunD K x qual params body scope dvs kws f fd) (D : DFb P w K mg base k f fd ps [] g) (hd : dvs ≠ []) (hp : ∀ G H : Hp, Paired (SlotR K G H) dS dvs) (ho : ∀ s ∈ dS, s.own = false)
    (h : ∀ (T : Addr) (kV doc pm : Value) (an : Option Addr) (cdv ct : Value) (us its ws : List Value), us.length = n → its.length = dvs.length → ws.length = ks.length →
      ∃ k, bindArgs (PySem.W.fnOf x qual params body scope (.ref T) kV doc pm an cdv ct) ⟨us, ks.zip ws⟩ = seqItems? (.ref T) >>= k ∧ k (some its.toArray) = pure (ps.zip (pkL ix us its ws))) : DFn P w K mg base k f ks [] (kwF n ks.length ix dS g) := by
  obtain ⟨its, kb⟩ := fd_kb1 F n ks ix hd h
  exact dfn_kb D kb F.kp (arr_ok hp ho)
theorem DFb.none {k : Nat} {md : List Bool} : DFb P w K mg base k f fd ps md (fun _ => none) := ⟨fun A outer s H args us vs as r os G Q hr hgd e0 hbind rv R hok hg post => nomatch hg⟩
theorem DFb.mono {k j : Nat} {md : List Bool} {g : FF} (D : DFb P w K mg base k f fd ps md g) (h : k ≤ j) : DFb P w K mg base j f fd ps md g := ⟨fun A outer s H args us vs as r os G Q hr => D.run A outer s H args us vs as r os G Q (hr.mono h)⟩
end

/-! ### items of lists or tuples -/
def signsD (z : Str) : List PyData := z.cps.toList.map fun c => PyData.str ⟨#[c]⟩
def itsD : PyData → Option (List PyData)
  | .list ds => some ds
  | .tuple ds => some ds
  | .str z => if okN z.length then some (signsD z) else none
  | _ => none
theorem its_ok {K : PySem.W.Frag} {G : Hp} (z : Str) : ItP K G (Its z) (signsD z) := by
  have ln : (signsD z).length = z.cps.size := by unfold signsD; rw [List.length_map, Array.length_toList]
  refine ⟨fun H s => Nat.le_of_eq ln.symm, fun i H s hi => by rw [ln] at hi; exact hi, fun i d H x H' G1 s1 s2 e y => ?_⟩
  obtain ⟨rfl, c, ec, rfl⟩ := y
  unfold signsD at e
  rw [List.getElem?_map, Array.getElem?_toList, ec] at e
  cases e
  exact ⟨G1, .same s2 (.str _)⟩
def itI (f : EF) : IF := fun ρ => (f ρ).bind fun p => (S.frz p.2 p.1).bind fun q => (itsD q.1).map fun ds => (ds, q.2)
section
variable {X : Cx} {tg e : Expr}
theorem pi_or {w1 w2 : TI} (h1 : PI X tg e w1) (h2 : PI X tg e w2) : PI X tg e (fun σ H R => w1 σ H R ∨ w2 σ H R) :=
  ⟨fun pins s σ H R I h => h.elim (h1.run pins s σ H R I) (h2.run pins s σ H R I)⟩
theorem di_seq {f : EF} (h : DE X e f) : DI X tg e (itI f) := by
  obtain ⟨w1, p1, s1⟩ := di_list (tg := tg) h
  obtain ⟨w2, p2, s2⟩ := di_tup (tg := tg) h
  obtain ⟨t3, p3, s3⟩ := h
  refine ⟨_, pi_or (pi_or p1 p2) (pi_str p3), fun G ρ σ H ds ρ' Q R e q => ?_⟩
  obtain ⟨⟨v1, ρ1⟩, e1, e⟩ := of_bind e
  obtain ⟨⟨d, ρ2⟩, e2, e⟩ := of_bind e
  cases d with
  | str z =>
    obtain ⟨es, e3, e4⟩ := of_map e
    have e3' : (if okN z.length then some (signsD z) else none) = some es := e3
    cases e4
    by_cases c : okN z.length = true
    · rw [if_pos c] at e3'
      cases e3'
      refine .inr (s3 G ρ σ H v1 ρ1 _ R e1 fun v G1 H1 E => ?_)
      obtain ⟨G2, E2⟩ := frz_ok E e2
      cases (show Dq X.K G2 v (.str z) from E2.res)
      exact ⟨z, rfl, q _ G2 H1 E2.rl E2.st (its_ok z)⟩
    · rw [if_neg c] at e3'
      cases e3'
  | list es =>
    cases e
    exact .inl <| .inl (s1 G ρ σ H _ _ Q R (by unfold seqI; rw [e1]; show (S.frz ρ1 v1).bind _ = _; rw [e2]; rfl) q)
  | tuple es =>
    cases e
    exact .inl <| .inr (s2 G ρ σ H _ _ Q R (by unfold tupI; rw [e1]; show (S.frz ρ1 v1).bind _ = _; rw [e2]; rfl) q)
  | _ => cases e
end

/-! ### the head's facts, and the builtins that the top binds -/
def biB (K : PySem.W.Frag) (bs : List (Str × String)) : Bool := bs.all fun p => He.eqO (PySem.W.nsIn K mainGlobals p.1) (some (some (.builtin p.2)))
abbrev AlX : Type := He.AlD × Bool
def obsX (n : Nat) (fa : List He.Fa) (fn : List He.DefD) (bs : List (Str × String)) (g : Addr → Option Obj) : AlX := (He.obsD fa fn (He.frG g (He.asD g n)), biB (He.frG g (He.asD g n)) bs)
def SaysX (fa : List He.Fa) (fn : List He.DefD) (bs : List (Str × String)) (K : PySem.W.Frag) : Prop := He.SaysD fa fn K ∧ biB K bs = true
def hookX (n : Nat) (fa : List He.Fa) (fn : List He.DefD) (bs : List (Str × String)) : PySem.W.Hook where
  α := AlX
  obs := fun s => obsX n fa fn bs s.heap.get?
  val := fun _ => (He.valD fn, true)
  says := fun _ h => ∃ K : PySem.W.Frag, K.In h ∧ SaysX fa fn bs K
  of := fun _ _ e => ⟨_, He.frG_in, congrArg (fun z : AlX => z.1) e, congrArg (fun z : AlX => z.2) e⟩
  keeps := fun _ _ _ ⟨K, hK, c⟩ k => ⟨K, PySem.W.Frag.In.keeps hK k, c⟩
theorem obsX_eq {n : Nat} {fa : List He.Fa} {fn : List He.DefD} {bs : List (Str × String)} {g : Addr → Option Obj} {s : Shared} (h : ∀ a, g a = s.heap.get? a) : obsX n fa fn bs g = (hookX n fa fn bs).obs s := by
  have e : g = s.heap.get? := funext h
  rw [e] <;> rfl
theorem bi_ok {K : PySem.W.Frag} {h : Heap} {mg : Str → Option Value} {bs : List (Str × String)} (X : K.In h) (G : h.Ns mainGlobals mg) (c : biB K bs = true) {x : Str} {id : String} (hm : (x, id) ∈ bs) : mg x = some (.builtin id) :=
  PySem.W.mg_of X G (He.eqO_ok (List.all_eq_true.mp c (x, id) hm))
/-- a law over such a head -/
theorem walk_DE {l : PySem.W.OpenLaw} {n k : Nat} {q : Program} {loose : List Str} {XP : (Str → Option Value) → Heap → Prop} {YP : World → Heap → Prop} {d : DefRec} {x : Str} {g : FF}
    (hn : l.most = some n) (hn2 : n ≤ sizeLine) (hdf : d.params.defaults = []) (hr : Room k callerA)
    (F : ∀ (w : World) (mg : Str → Option Value) (fa : Addr) (h : Heap), YP w h → h.Ns mainGlobals mg → mg d.name = some (.ref fa) →
      ∃ (K : PySem.W.Frag) (fd : FuncData), K.In h ∧ (∀ (s : Shared) (u : Value), BindsTo s fd ⟨[u], []⟩ [(x, u)]) ∧ ∀ base : Heap, K.In base → base.Ns mainGlobals mg → DFb l.prog w K mg base k fa fd [x] [] g)
    (hg : ∀ ns : List Int, ns.length ≤ n → g [.sc ns] = some (.fz (.bool true), [.sc ns])) : PySem.W.WalkO q loose XP YP l.row.toRowW d [] (fun f vs => PySem.call f vs) := by
  refine Att.attach_call hn hdf fun w s0 s1 mg mb fa o pm cd doc a vs ns G Y ho hd hcd hmg hobj hints hlen hgen => ?_
  obtain ⟨K, fd, kin, hb, hF⟩ := F w mg fa _ Y G.T.g hmg
  exact law_callD kin G.T.g G.T.b G.T.builtins G.T.nolimit hgen hobj hints (Nat.le_trans hlen hn2) hr hF hb (hg ns hlen)
end DL

/-! D11: small words that written texts use. -/
namespace DL
open L2 PySem PySem.Spec PyProof.Rows

theorem bt_len : bootBuiltins "len" = some (.builtin "len") := by rfl
theorem bt_abs : bootBuiltins "abs" = some (.builtin "abs") := by rfl
theorem bt_repr : bootBuiltins "repr" = some (.builtin "repr") := by rfl
theorem bt_list : bootBuiltins "list" = some (.type "list") := by rfl
theorem bt_tuple : bootBuiltins "tuple" = some (.type "tuple") := by rfl
theorem bt_int : bootBuiltins "int" = some (.type "int") := by rfl
theorem bt_str : bootBuiltins "str" = some (.type "str") := by rfl
theorem bt_bool : bootBuiltins "bool" = some (.type "bool") := by rfl
theorem bt_dict : bootBuiltins "dict" = some (.type "dict") := by rfl
theorem bt_isi : bootBuiltins "isinstance" = some (.builtin "isinstance") := by rfl
/-- lengths of written lists -/
theorem len_nil : ∀ (ρ : PSt) (ss : List S) (ρ' : PSt), nilF ρ = some (ss, ρ') → ss.length = ([] : List Str).length := fun _ _ _ e => nilF_len e
theorem kl_nil : ∀ (ρ : PSt) (out : List (Key × PyData)) (ρ' : PSt), kNil ρ = some (out, ρ') → out.length = 0 := fun ρ out ρ' e => by cases e; rfl
theorem kl_cons {x : Str} {f : EF} {g : KF} {n : Nat} (h : ∀ (ρ : PSt) (out : List (Key × PyData)) (ρ' : PSt), g ρ = some (out, ρ') → out.length = n) : ∀ (ρ : PSt) (out : List (Key × PyData)) (ρ' : PSt), kCons x f g ρ = some (out, ρ') → out.length = n + 1 := fun ρ out ρ' e => by
  obtain ⟨⟨s1, ρ1⟩, e1, e⟩ := of_bind e
  obtain ⟨⟨d, ρ2⟩, e2, e⟩ := of_bind e
  obtain ⟨⟨o, ρ3⟩, e3, e⟩ := of_map e
  cases e
  exact congrArg Nat.succ (h _ _ _ e3)
theorem kl_le {g : KF} {n : Nat} (h : ∀ (ρ : PSt) (out : List (Key × PyData)) (ρ' : PSt), g ρ = some (out, ρ') → out.length = n) (hn : n ≤ 15 := by decide) : ∀ (ρ : PSt) (out : List (Key × PyData)) (ρ' : PSt), g ρ = some (out, ρ') → out.length ≤ 15 := fun ρ out ρ' e => by
  rw [h ρ out ρ' e]; exact hn
theorem gl_nil : ∀ (ds : List PyData) (ρ ρ' : PSt), gsNil ds ρ = some ρ' → ds.length = 0 := fun ds ρ ρ' e => by
  cases ds with
  | nil => rfl
  | cons _ _ => cases e
theorem gl_cons {h : GF} {hs : GsF} {n : Nat} (hh : ∀ (ds : List PyData) (ρ ρ' : PSt), hs ds ρ = some ρ' → ds.length = n) : ∀ (ds : List PyData) (ρ ρ' : PSt), gsCons h hs ds ρ = some ρ' → ds.length = n + 1 := fun ds ρ ρ' e => by
  cases ds with
  | nil => cases e
  | cons d ds =>
    obtain ⟨ρ1, e1, e2⟩ := of_bind e
    exact congrArg Nat.succ (hh _ _ _ e2)
end DL

/-! D12: the functions on states, one step at a time (each equation holds by definition; what is not yet reached stays unapplied). -/
namespace DL
open L2 PySem PySem.Spec PyProof.Rows

abbrev ER := Option (S × PSt)
/-- steps of statements -/
def kSeq (m : SF) (x : Option Out) : Option Out := x.bind fun o => match o with
  | .nx ρ => m ρ
  | o => some o
def kIf (m1 m2 : SF) (x : Option (Bool × PSt)) : Option Out := x.bind fun p => if p.1 then m1 p.2 else m2 p.2
def kRet (x : ER) : Option Out := x.bind fun p => (retS p.1 p.2).map fun q => .rt q.1 q.2
def kSet (i : Nat) (x : ER) : Option Out := x.bind fun p => (stoS p.1 p.2).map fun q => .nx (q.2.set i (some q.1))
def kNx (x : ER) : Option Out := x.map fun p => .nx p.2
section
variable {ρ ρ1 : PSt} {s s1 s2 : S} {m m1 m2 : SF} {f f1 f2 f3 g : EF} {c c1 c2 : TF} {a b : AF} {d e : PyData} {i j : Nat} {o : Out}
theorem e_seq : seqF m1 m2 ρ = kSeq m2 (m1 ρ) := rfl
theorem e_kseq : kSeq m (some (.nx ρ)) = m ρ := rfl
theorem e_kseqR : kSeq m (some (.rt s ρ)) = some (.rt s ρ) := rfl
theorem e_kseqB : kSeq m (some (.bk ρ)) = some (.bk ρ) := rfl
theorem e_kseqC : kSeq m (some (.ct ρ)) = some (.ct ρ) := rfl
theorem e_skip : skipF ρ = some (.nx ρ) := rfl
theorem e_if : ifSF c m1 m2 ρ = kIf m1 m2 (c ρ) := rfl
theorem e_ifT : kIf m1 m2 (some (true, ρ)) = m1 ρ := rfl
theorem e_ifF : kIf m1 m2 (some (false, ρ)) = m2 ρ := rfl
theorem e_ret : retF f ρ = kRet (f ρ) := rfl
theorem e_kret : kRet (some (.fz d, ρ)) = some (.rt (.fz d) ρ) := rfl
theorem e_kretL {ds} : kRet (some (.ol ds, ρ)) = some (.rt (.ol ds) ρ) := rfl
theorem e_kretD {ds} : kRet (some (.od ds, ρ)) = some (.rt (.od ds) ρ) := rfl
def kRetA (x : Option (PyData × PSt)) : Option Out := x.map fun p => .rt (.fz p.1) p.2
theorem e_kretA : kRet (some (.al i, ρ)) = kRetA (cellF ρ i ρ[i]?) := by
  unfold kRet kRetA
  show Option.map _ (Option.map _ (cellF ρ i ρ[i]?)) = _
  rw [Option.map_map]
  rfl
theorem e_kretA2 : kRetA (some (d, ρ)) = some (.rt (.fz d) ρ) := rfl
theorem e_set : setF i f ρ = kSet i (f ρ) := rfl
theorem e_kset : kSet i (some (.fz d, ρ)) = some (.nx (ρ.set i (some (.fz d)))) := rfl
theorem e_ksetL {ds} : kSet i (some (.ol ds, ρ)) = some (.nx (ρ.set i (some (.ol ds)))) := rfl
theorem e_ksetD {ds} : kSet i (some (.od ds, ρ)) = some (.nx (ρ.set i (some (.od ds)))) := rfl
theorem e_ksetS {ds} : kSet i (some (.sc ds, ρ)) = some (.nx (ρ.set i (some (.sc ds)))) := rfl
def kSetA (i : Nat) (x : Option (PyData × PSt)) : Option Out := x.map fun p => .nx (p.2.set i (some (.fz p.1)))
theorem e_ksetA : kSet i (some (.al j, ρ)) = kSetA i (cellF ρ j ρ[j]?) := by
  unfold kSet kSetA
  show Option.map _ (Option.map _ (cellF ρ j ρ[j]?)) = _
  rw [Option.map_map]
  rfl
theorem e_ksetA2 : kSetA i (some (d, ρ)) = some (.nx (ρ.set i (some (.fz d)))) := rfl
theorem e_expr : exprF f ρ = kNx (f ρ) := rfl
theorem e_knx : kNx (some (s, ρ)) = some (.nx ρ) := rfl
/-- cells -/
theorem e_cvF : cellV ρ i (some (some (.fz d))) = some (.fz d, ρ) := rfl
theorem e_cvS {ns} : cellV ρ i (some (some (.sc ns))) = some (.sc ns, ρ) := rfl
theorem e_cvL {ds} : cellV ρ i (some (some (.ol ds))) = some (.al i, ρ) := rfl
theorem e_cvD {ds} : cellV ρ i (some (some (.od ds))) = some (.al i, ρ) := rfl
theorem e_cfF : cellF ρ i (some (some (.fz d))) = some (d, ρ) := rfl
theorem e_cfL {ds} : cellF ρ i (some (some (.ol ds))) = some (.list ds, ρ.set i (some (.fz (.list ds)))) := rfl
theorem e_cdF : cellD (some (some (.fz d))) = some d := rfl
theorem e_cdL {ds} : cellD (some (some (.ol ds))) = some (.list ds) := rfl
theorem e_ckD {ds} : cellK (some (some (.od ds))) = some ds := rfl
theorem e_clL {ds} : cellL (some (some (.ol ds))) = some ds := rfl
theorem e_pkF : S.peek ρ (.fz d) = some d := rfl
theorem e_pkL {ds} : S.peek ρ (.ol ds) = some (.list ds) := rfl
theorem e_pkA : S.peek ρ (.al i) = cellD ρ[i]? := rfl
theorem e_fzF : S.frz ρ (.fz d) = some (d, ρ) := rfl
theorem e_fzL {ds} : S.frz ρ (.ol ds) = some (.list ds, ρ) := rfl
theorem e_fzA : S.frz ρ (.al i) = cellF ρ i ρ[i]? := rfl
theorem e_var : varF i ρ = cellV ρ i ρ[i]? := rfl
theorem e_c : cF d ρ = some (.fz d, ρ) := rfl
/-- operations -/
def kO1 (g : PyData → PyData → Option S) (f2 : EF) (x : ER) : ER := x.bind fun p => (f2 p.2).bind fun q => (p.1.peek q.2).bind fun d => (q.1.peek q.2).bind fun e => (g d e).map fun s => (s, q.2)
def kO2 (g : PyData → PyData → Option S) (s : S) (x : ER) : ER := x.bind fun q => (s.peek q.2).bind fun d => (q.1.peek q.2).bind fun e => (g d e).map fun s => (s, q.2)
def kO3 (g : PyData → PyData → Option S) (x y : Option PyData) (ρ : PSt) : ER := x.bind fun d => y.bind fun e => (g d e).map fun s => (s, ρ)
def kO4 (x : Option S) (ρ : PSt) : ER := x.map fun s => (s, ρ)
variable {h : PyData → PyData → Option S}
theorem e_op : opF h f1 f2 ρ = kO1 h f2 (f1 ρ) := rfl
theorem e_o1 : kO1 h f2 (some (s, ρ)) = kO2 h s (f2 ρ) := rfl
theorem e_o2 : kO2 h s (some (s2, ρ)) = kO3 h (s.peek ρ) (s2.peek ρ) ρ := rfl
theorem e_o3 : kO3 h (some d) (some e) ρ = kO4 (h d e) ρ := rfl
theorem e_o4 : kO4 (some s) ρ = some (s, ρ) := rfl
def kT (x : ER) : Option (Bool × PSt) := x.bind fun p => (boolS p.1).map fun b => (b, p.2)
theorem e_tst : tstF f ρ = kT (f ρ) := rfl
theorem e_kt {t : Bool} : kT (some (.fz (.bool t), ρ)) = some (t, ρ) := rfl
def kAnd (g : TF) (x : Option (Bool × PSt)) : Option (Bool × PSt) := x.bind fun p => if p.1 then g p.2 else some (false, p.2)
def kOr (g : TF) (x : Option (Bool × PSt)) : Option (Bool × PSt) := x.bind fun p => if p.1 then some (true, p.2) else g p.2
def kNot (x : Option (Bool × PSt)) : Option (Bool × PSt) := x.map fun p => (!p.1, p.2)
theorem e_and : andF c1 c2 ρ = kAnd c2 (c1 ρ) := rfl
theorem e_andT : kAnd c (some (true, ρ)) = c ρ := rfl
theorem e_andF : kAnd c (some (false, ρ)) = some (false, ρ) := rfl
theorem e_or : orF c1 c2 ρ = kOr c2 (c1 ρ) := rfl
theorem e_orT : kOr c (some (true, ρ)) = some (true, ρ) := rfl
theorem e_orF : kOr c (some (false, ρ)) = c ρ := rfl
theorem e_not : notF c ρ = kNot (c ρ) := rfl
theorem e_knot {t : Bool} : kNot (some (t, ρ)) = some (!t, ρ) := rfl
def kAndV (g : EF) (x : ER) : ER := x.bind fun p => (boolS p.1).bind fun b => if b then g p.2 else some (.fz (.bool false), p.2)
def kOrV (g : EF) (x : ER) : ER := x.bind fun p => (boolS p.1).bind fun b => if b then some (.fz (.bool true), p.2) else g p.2
def kNotV (x : ER) : ER := x.bind fun p => (boolS p.1).map fun b => (.fz (.bool (!b)), p.2)
theorem e_andV : andVF f1 f2 ρ = kAndV f2 (f1 ρ) := rfl
theorem e_andVT : kAndV f (some (.fz (.bool true), ρ)) = f ρ := rfl
theorem e_andVF : kAndV f (some (.fz (.bool false), ρ)) = some (.fz (.bool false), ρ) := rfl
theorem e_orV : orVF f1 f2 ρ = kOrV f2 (f1 ρ) := rfl
theorem e_orVT : kOrV f (some (.fz (.bool true), ρ)) = some (.fz (.bool true), ρ) := rfl
theorem e_orVF : kOrV f (some (.fz (.bool false), ρ)) = f ρ := rfl
theorem e_notV : notVF f ρ = kNotV (f ρ) := rfl
theorem e_knotV {t : Bool} : kNotV (some (.fz (.bool t), ρ)) = some (.fz (.bool (!t)), ρ) := rfl
def kIfE (f g : EF) (x : Option (Bool × PSt)) : ER := x.bind fun p => if p.1 then f p.2 else g p.2
theorem e_ifE : ifF c f1 f2 ρ = kIfE f1 f2 (c ρ) := rfl
theorem e_ifET : kIfE f1 f2 (some (true, ρ)) = f1 ρ := rfl
theorem e_ifEF : kIfE f1 f2 (some (false, ρ)) = f2 ρ := rfl
def kNeg (x : ER) : ER := x.bind fun p => negF (fun _ => some p) p.2
theorem e_neg : negF f ρ = kNeg (f ρ) := by unfold negF kNeg negF; cases f ρ <;> rfl
theorem e_kneg {z : Int} : kNeg (some (.fz (.int z), ρ)) = some (.fz (.int (-z)), ρ) := rfl
/-- argument lists -/
abbrev AR := Option (List S × PSt)
def kA1 (g : AF) (x : ER) : AR := x.bind fun p => (argS p.1 p.2).bind fun q => (g q.2).map fun r => (q.1 :: r.1, r.2)
def kA2 (s : S) (x : AR) : AR := x.map fun r => (s :: r.1, r.2)
theorem e_nil : nilF ρ = some ([], ρ) := rfl
theorem e_cons : consF f a ρ = kA1 a (f ρ) := rfl
theorem e_a1F : kA1 a (some (.fz d, ρ)) = kA2 (.fz d) (a ρ) := rfl
theorem e_a1S {ns} : kA1 a (some (.sc ns, ρ)) = kA2 (.sc ns) (a ρ) := rfl
theorem e_a1L {ds} : kA1 a (some (.ol ds, ρ)) = kA2 (.fz (.list ds)) (a ρ) := rfl
theorem e_a1A : kA1 a (some (.al i, ρ)) = kA2 (.al i) (a ρ) := rfl
theorem e_a2 {ss} : kA2 s (some (ss, ρ)) = some (s :: ss, ρ) := rfl
def kFz (x : Option (PyData × PSt)) (ss : List S) : Option (List PyData × PSt) := x.bind fun p => (frzAll ss p.2).map fun r => (p.1 :: r.1, r.2)
def kFz2 (d : PyData) (x : Option (List PyData × PSt)) : Option (List PyData × PSt) := x.map fun r => (d :: r.1, r.2)
theorem e_fa0 : frzAll [] ρ = some ([], ρ) := rfl
theorem e_fa1 {ss} : frzAll (s :: ss) ρ = kFz (s.frz ρ) ss := rfl
theorem e_fa2 {ss} : kFz (some (d, ρ)) ss = kFz2 d (frzAll ss ρ) := rfl
theorem e_fa3 {ds} : kFz2 d (some (ds, ρ)) = some (d :: ds, ρ) := rfl
def kTup (x : AR) : ER := x.bind fun p => (frzAll p.1 p.2).bind fun q => if okN q.1.length then some (.fz (.tuple q.1), q.2) else none
def kTup2 (x : Option (List PyData × PSt)) : ER := x.bind fun q => if okN q.1.length then some (.fz (.tuple q.1), q.2) else none
def kLst (x : AR) : ER := x.bind fun p => (frzAll p.1 p.2).bind fun q => if okN q.1.length then some (.ol q.1, q.2) else none
def kLst2 (x : Option (List PyData × PSt)) : ER := x.bind fun q => if okN q.1.length then some (.ol q.1, q.2) else none
theorem e_tup : tupF a ρ = kTup (a ρ) := rfl
theorem e_ktup {ss} : kTup (some (ss, ρ)) = kTup2 (frzAll ss ρ) := rfl
theorem e_ktup2 {ds} : kTup2 (some (ds, ρ)) = if okN ds.length then some (.fz (.tuple ds), ρ) else none := rfl
theorem e_lst : lstF a ρ = kLst (a ρ) := rfl
theorem e_klst {ss} : kLst (some (ss, ρ)) = kLst2 (frzAll ss ρ) := rfl
theorem e_klst2 {ds} : kLst2 (some (ds, ρ)) = if okN ds.length then some (.ol ds, ρ) else none := rfl
/-- builtins -/
def kCl (g : List PyData → Option S) (x : AR) : ER := x.bind fun p => (peekAll p.2 p.1).bind fun ds => (g ds).map fun s => (s, p.2)
def kPk (x : Option PyData) (ρ : PSt) (ss : List S) : Option (List PyData) := x.bind fun d => (peekAll ρ ss).map fun ds => d :: ds
def kPk2 (d : PyData) (x : Option (List PyData)) : Option (List PyData) := x.map fun ds => d :: ds
def kCl2 (g : List PyData → Option S) (x : Option (List PyData)) (ρ : PSt) : ER := x.bind fun ds => (g ds).map fun s => (s, ρ)
variable {w : List PyData → Option S}
theorem e_pa0 : peekAll ρ [] = some [] := rfl
theorem e_pa1 {ss} : peekAll ρ (s :: ss) = kPk (s.peek ρ) ρ ss := rfl
theorem e_pa2 {ss} : kPk (some d) ρ ss = kPk2 d (peekAll ρ ss) := rfl
theorem e_pa3 {ds} : kPk2 d (some ds) = some (d :: ds) := rfl
theorem e_cl : clF w a ρ = kCl w (a ρ) := rfl
theorem e_kcl {ss} : kCl w (some (ss, ρ)) = kCl2 w (peekAll ρ ss) ρ := rfl
theorem e_kcl2 {ds} : kCl2 w (some ds) ρ = kO4 (w ds) ρ := rfl
/-- own dicts -/
def kD1 (g : EF) (x : ER) : ER := x.bind fun p => (alS p.1).bind fun i => (g p.2).bind fun q => (S.peek q.2 q.1).bind fun d => (keyD d).bind fun k => (cellK q.2[i]?).bind fun kvs => (valD kvs k).map fun x => (.fz x, q.2)
def kD2 (i : Nat) (x : ER) : ER := x.bind fun q => (S.peek q.2 q.1).bind fun d => (keyD d).bind fun k => (cellK q.2[i]?).bind fun kvs => (valD kvs k).map fun x => (.fz x, q.2)
def kD3 (x : Option (List (Key × PyData))) (k : Key) (ρ : PSt) : ER := x.bind fun kvs => (valD kvs k).map fun x => (.fz x, ρ)
def kD4 (x : Option PyData) (ρ : PSt) : ER := x.map fun x => (.fz x, ρ)
theorem e_dget : dgetF f g ρ = kD1 g (f ρ) := rfl
theorem e_d1 : kD1 g (some (.al i, ρ)) = kD2 i (g ρ) := rfl
theorem e_d2 {x : Str} : kD2 i (some (.fz (.str x), ρ)) = kD3 (cellK ρ[i]?) (.inr x) ρ := rfl
theorem e_d2i {x : Int} : kD2 i (some (.fz (.int x), ρ)) = kD3 (cellK ρ[i]?) (.inl x) ρ := rfl
theorem e_d3 {kvs k} : kD3 (some kvs) k ρ = kD4 (valD kvs k) ρ := rfl
theorem e_d4 : kD4 (some d) ρ = some (.fz d, ρ) := rfl
def kP1 (f g : EF) (x : ER) : Option Out := x.bind fun r => (S.frz r.2 r.1).bind fun r => (f r.2).bind fun p => (alS p.1).bind fun i => (g p.2).bind fun q => (S.peek q.2 q.1).bind fun d => (keyD d).bind fun k => (cellK q.2[i]?).bind fun kvs =>
  if okN (kvs.length + 1) then some (.nx (q.2.set i (some (.od (putD kvs k r.1))))) else none
def kP2 (f g : EF) (x : Option (PyData × PSt)) : Option Out := x.bind fun r => (f r.2).bind fun p => (alS p.1).bind fun i => (g p.2).bind fun q => (S.peek q.2 q.1).bind fun d => (keyD d).bind fun k => (cellK q.2[i]?).bind fun kvs =>
  if okN (kvs.length + 1) then some (.nx (q.2.set i (some (.od (putD kvs k r.1))))) else none
def kP3 (g : EF) (v : PyData) (x : ER) : Option Out := x.bind fun p => (alS p.1).bind fun i => (g p.2).bind fun q => (S.peek q.2 q.1).bind fun d => (keyD d).bind fun k => (cellK q.2[i]?).bind fun kvs =>
  if okN (kvs.length + 1) then some (.nx (q.2.set i (some (.od (putD kvs k v))))) else none
def kP4 (v : PyData) (i : Nat) (x : ER) : Option Out := x.bind fun q => (S.peek q.2 q.1).bind fun d => (keyD d).bind fun k => (cellK q.2[i]?).bind fun kvs =>
  if okN (kvs.length + 1) then some (.nx (q.2.set i (some (.od (putD kvs k v))))) else none
def kP5 (v : PyData) (i : Nat) (k : Key) (x : Option (List (Key × PyData))) (ρ : PSt) : Option Out := x.bind fun kvs => if okN (kvs.length + 1) then some (.nx (ρ.set i (some (.od (putD kvs k v))))) else none
theorem e_dput : dputF f1 f2 f3 ρ = kP1 f1 f2 (f3 ρ) := rfl
theorem e_p1 : kP1 f1 f2 (some (s, ρ)) = kP2 f1 f2 (S.frz ρ s) := rfl
theorem e_p2 : kP2 f1 f2 (some (d, ρ)) = kP3 f2 d (f1 ρ) := rfl
theorem e_p3 : kP3 f2 d (some (.al i, ρ)) = kP4 d i (f2 ρ) := rfl
theorem e_p4 {x : Str} : kP4 d i (some (.fz (.str x), ρ)) = kP5 d i (.inr x) (cellK ρ[i]?) ρ := rfl
theorem e_p5 {k kvs} : kP5 d i k (some kvs) ρ = if okN (kvs.length + 1) then some (.nx (ρ.set i (some (.od (putD kvs k d))))) else none := rfl
/-- dict displays -/
def kK1 (x : Str) (g : KF) (r : ER) : Option (List (Key × PyData) × PSt) := r.bind fun p => (S.frz p.2 p.1).bind fun q => (g q.2).map fun r => ((.inr x, q.1) :: r.1, r.2)
def kK2 (x : Str) (g : KF) (r : Option (PyData × PSt)) : Option (List (Key × PyData) × PSt) := r.bind fun q => (g q.2).map fun r => ((.inr x, q.1) :: r.1, r.2)
def kK3 (x : Str) (d : PyData) (r : Option (List (Key × PyData) × PSt)) : Option (List (Key × PyData) × PSt) := r.map fun r => ((.inr x, d) :: r.1, r.2)
def kK4 (r : Option (List (Key × PyData) × PSt)) : ER := r.map fun p => (.od (mergeD p.1), p.2)
theorem e_knil : kNil ρ = some ([], ρ) := rfl
theorem e_kcons {x : Str} {k : KF} : kCons x f k ρ = kK1 x k (f ρ) := rfl
theorem e_k1 {x : Str} {k : KF} : kK1 x k (some (s, ρ)) = kK2 x k (S.frz ρ s) := rfl
theorem e_k2 {x : Str} {k : KF} : kK2 x k (some (d, ρ)) = kK3 x d (k ρ) := rfl
theorem e_k3 {x : Str} {l} : kK3 x d (some (l, ρ)) = some ((.inr x, d) :: l, ρ) := rfl
theorem e_disp {k : KF} : dispF k ρ = kK4 (k ρ) := rfl
theorem e_k4 {l} : kK4 (some (l, ρ)) = some (.od (mergeD l), ρ) := rfl
/-- slices -/
def kS1 (l h : PF) (x : ER) : ER := x.bind fun p => (l p.2).bind fun q => (h q.2).bind fun r => (cutS1 p.1 r.2 q.1 r.1).map fun s => (s, r.2)
def kS2 (h : PF) (s : S) (x : Option (Option Int × PSt)) : ER := x.bind fun q => (h q.2).bind fun r => (cutS1 s r.2 q.1 r.1).map fun s => (s, r.2)
def kS3 (s : S) (o : Option Int) (x : Option (Option Int × PSt)) : ER := x.bind fun r => (cutS1 s r.2 o r.1).map fun s => (s, r.2)
def kSome (x : ER) : Option (Option Int × PSt) := x.bind fun p => (intS p.1).map fun i => (some i, p.2)
variable {l u : PF}
theorem e_nop : noP ρ = some (none, ρ) := rfl
theorem e_somep : someP f ρ = kSome (f ρ) := rfl
theorem e_ksome {z : Int} : kSome (some (.fz (.int z), ρ)) = some (some z, ρ) := rfl
theorem e_sl : slF f l u ρ = kS1 l u (f ρ) := rfl
theorem e_s1 : kS1 l u (some (s, ρ)) = kS2 u s (l ρ) := rfl
theorem e_s2 {z} : kS2 u s (some (z, ρ)) = kS3 s z (u ρ) := rfl
theorem e_s3 {z y} : kS3 s z (some (y, ρ)) = kO4 (cutS1 s ρ z y) ρ := rfl
/-- targets, several names -/
def kG (h : GsF) (x : Option PSt) (ds : List PyData) : Option PSt := x.bind fun ρ => h ds ρ
variable {q : GF} {qs : GsF}
theorem e_gnm : gNm i d ρ = some (ρ.set i (some (.fz d))) := rfl
theorem e_gtp {ds} : gTp qs (.tuple ds) ρ = qs ds ρ := rfl
theorem e_gnil : gsNil [] ρ = some ρ := rfl
theorem e_gcons {ds} : gsCons q qs (d :: ds) ρ = kG qs (q d ρ) ds := rfl
theorem e_kg {ds} : kG qs (some ρ) ds = qs ds ρ := rfl
def kAs1 (q : GF) (x : ER) : Option Out := x.bind fun p => (S.frz p.2 p.1).bind fun r => (q r.1 r.2).map .nx
def kAs2 (q : GF) (x : Option (PyData × PSt)) : Option Out := x.bind fun r => (q r.1 r.2).map .nx
def kAs3 (x : Option PSt) : Option Out := x.map .nx
theorem e_asg : asgF f q ρ = kAs1 q (f ρ) := rfl
theorem e_as1 : kAs1 q (some (s, ρ)) = kAs2 q (S.frz ρ s) := rfl
theorem e_as2 : kAs2 q (some (d, ρ)) = kAs3 (q d ρ) := rfl
theorem e_as3 : kAs3 (some ρ) = some (.nx ρ) := rfl
def kPr (i j : Nat) (x : AR) : Option Out := x.bind fun p => (frzAll p.1 p.2).bind fun q => match q.1 with
  | [d, e] => some (.nx ((q.2.set i (some (.fz d))).set j (some (.fz e))))
  | _ => none
def kPr2 (i j : Nat) (x : Option (List PyData × PSt)) : Option Out := x.bind fun q => match q.1 with
  | [d, e] => some (.nx ((q.2.set i (some (.fz d))).set j (some (.fz e))))
  | _ => none
theorem e_par : parF i j a ρ = kPr i j (a ρ) := rfl
theorem e_pr {ss} : kPr i j (some (ss, ρ)) = kPr2 i j (frzAll ss ρ) := rfl
theorem e_pr2 : kPr2 i j (some ([d, e], ρ)) = some (.nx ((ρ.set i (some (.fz d))).set j (some (.fz e)))) := rfl
/-- iteration -/
def kI1 (x : ER) : Option (List PyData × PSt) := x.bind fun p => (S.frz p.2 p.1).bind fun q => (itsD q.1).map fun ds => (ds, q.2)
def kI2 (x : Option (PyData × PSt)) : Option (List PyData × PSt) := x.bind fun q => (itsD q.1).map fun ds => (ds, q.2)
theorem e_it : itI f ρ = kI1 (f ρ) := rfl
theorem e_i1 : kI1 (some (s, ρ)) = kI2 (S.frz ρ s) := rfl
theorem e_i2L {ds} : kI2 (some (.list ds, ρ)) = some (ds, ρ) := rfl
theorem e_i2T {ds} : kI2 (some (.tuple ds, ρ)) = some (ds, ρ) := rfl
def kR1 (x : AR) : Option (List PyData × PSt) := x.bind fun p => match p.1 with
  | [.fz (.int j)] => if smallI j then some (rngD 0 j.toNat, p.2) else none
  | _ => none
theorem e_r1 : rng1 a ρ = kR1 (a ρ) := rfl
theorem e_kr1 {z : Int} : kR1 (some ([.fz (.int z)], ρ)) = if smallI z then some (rngD 0 z.toNat, ρ) else none := rfl
variable {it : IF}
def kFor (q : GF) (m : SF) (x : Option (List PyData × PSt)) : Option Out := x.bind fun p => loopF q m p.1 p.2
theorem e_for : forF it q m ρ = kFor q m (it ρ) := rfl
theorem e_kfor {ds} : kFor q m (some (ds, ρ)) = loopF q m ds ρ := rfl
def kL1 (q : GF) (m : SF) (ds : List PyData) (x : Option PSt) : Option Out := x.bind fun ρ1 => (m ρ1).bind fun o => match o with
    | .nx ρ2 => loopF q m ds ρ2
    | .ct ρ2 => loopF q m ds ρ2
    | .bk ρ2 => some (.nx ρ2)
    | .rt s ρ2 => some (.rt s ρ2)
def kL2 (q : GF) (m : SF) (ds : List PyData) (x : Option Out) : Option Out := x.bind fun o => match o with
    | .nx ρ2 => loopF q m ds ρ2
    | .ct ρ2 => loopF q m ds ρ2
    | .bk ρ2 => some (.nx ρ2)
    | .rt s ρ2 => some (.rt s ρ2)
theorem e_l0 : loopF q m [] ρ = some (.nx ρ) := rfl
theorem e_l1 {ds} : loopF q m (d :: ds) ρ = kL1 q m ds (q d ρ) := rfl
theorem e_l2 {ds} : kL1 q m ds (some ρ) = kL2 q m ds (m ρ) := rfl
theorem e_l3 {ds} : kL2 q m ds (some (.nx ρ)) = loopF q m ds ρ := rfl
theorem e_l3c {ds} : kL2 q m ds (some (.ct ρ)) = loopF q m ds ρ := rfl
theorem e_l3b {ds} : kL2 q m ds (some (.bk ρ)) = some (.nx ρ) := rfl
theorem e_l3r {ds} : kL2 q m ds (some (.rt s ρ)) = some (.rt s ρ) := rfl
def kW1 (c : TF) (m : SF) (n : Nat) (x : Option (Bool × PSt)) : Option Out := x.bind fun p => if p.1 then (m p.2).bind fun o => match o with
    | .nx ρ2 => whF c m n ρ2
    | .ct ρ2 => whF c m n ρ2
    | .bk ρ2 => some (.nx ρ2)
    | .rt s ρ2 => some (.rt s ρ2) else some (.nx p.2)
def kW2 (c : TF) (m : SF) (n : Nat) (x : Option Out) : Option Out := x.bind fun o => match o with
    | .nx ρ2 => whF c m n ρ2
    | .ct ρ2 => whF c m n ρ2
    | .bk ρ2 => some (.nx ρ2)
    | .rt s ρ2 => some (.rt s ρ2)
theorem e_w1 {n : Nat} : whF c m (n + 1) ρ = kW1 c m n (c ρ) := rfl
theorem e_wT {n : Nat} : kW1 c m n (some (true, ρ)) = kW2 c m n (m ρ) := rfl
theorem e_wF {n : Nat} : kW1 c m n (some (false, ρ)) = some (.nx ρ) := rfl
theorem e_w2 {n : Nat} : kW2 c m n (some (.nx ρ)) = whF c m n ρ := rfl
/-- defs, calls -/
def kFn (md : List Bool) (as : List S) (x : Option Out) : Option (S × List S) := x.bind fun o => match o with
  | .rt s ρ => (outsF md as ρ).map fun l => (s, l)
  | .nx ρ => (outsF md as ρ).map fun l => (.fz .none, l)
  | _ => none
def kFn2 (s : S) (x : Option (List S)) : Option (S × List S) := x.map fun l => (s, l)
variable {md : List Bool} {np n : Nat}
theorem e_fn {as} : fnF np n md m as = if as.length = np then kFn md as (m (entS n as)) else none := rfl
theorem e_kfn {as} : kFn md as (some (.rt s ρ)) = kFn2 s (outsF md as ρ) := rfl
theorem e_kfnN {as} : kFn md as (some (.nx ρ)) = kFn2 (.fz .none) (outsF md as ρ) := rfl
theorem e_kfn2 {ss} : kFn2 s (some ss) = some (s, ss) := rfl
theorem e_ent {as} : entS n as = ags as ++ List.replicate (n - as.length) none := rfl
theorem e_out0 {as} : outsF [] as ρ = some as := rfl
def kOut (s : S) (x : Option (List S)) : Option (List S) := x.map fun l => s :: l
theorem e_outN {b : Bool} {ms : List Bool} : outsF (b :: ms) [] ρ = some [] := rfl
theorem e_outT {ms : List Bool} {as : List S} : outsF (true :: ms) (s1 :: as) (some s :: ρ) = kOut s (outsF ms as ρ) := rfl
theorem e_outF {ms : List Bool} {as : List S} {x : Option S} : outsF (false :: ms) (s :: as) (x :: ρ) = kOut s (outsF ms as ρ) := rfl
theorem e_kout {ss} : kOut s (some ss) = some (s :: ss) := rfl
theorem e_md0 : mdL none = [] := rfl
theorem e_md1 : mdL (some 0) = [true] := rfl
theorem e_md2 : mdL (some 1) = [false, true] := rfl
theorem e_md3 : mdL (some 2) = [false, false, true] := rfl
variable {jo : Option Nat} {ff : FF}
def kC1 (jo : Option Nat) (ff : FF) (b : AF) (x : AR) : ER := x.bind fun p => (b p.2).bind fun q => (entA jo (p.1 ++ q.1) q.2).bind fun a => (ff a.1).map fun r => (r.1, leaA jo (p.1 ++ q.1) r.2 a.2)
def kC2 (jo : Option Nat) (ff : FF) (ss : List S) (x : AR) : ER := x.bind fun q => (entA jo (ss ++ q.1) q.2).bind fun a => (ff a.1).map fun r => (r.1, leaA jo (ss ++ q.1) r.2 a.2)
def kC3 (jo : Option Nat) (ff : FF) (ss : List S) (x : AR) : ER := x.bind fun a => (ff a.1).map fun r => (r.1, leaA jo ss r.2 a.2)
def kC4 (jo : Option Nat) (ss : List S) (x : Option (S × List S)) (ρ : PSt) : ER := x.map fun r => (r.1, leaA jo ss r.2 ρ)
theorem e_call : callF jo ff a b ρ = kC1 jo ff b (a ρ) := rfl
theorem e_c1 {ss} : kC1 jo ff b (some (ss, ρ)) = kC2 jo ff ss (b ρ) := rfl
theorem e_c2 {ss tt} : kC2 jo ff ss (some (tt, ρ)) = kC3 jo ff (ss ++ tt) (entA jo (ss ++ tt) ρ) := rfl
theorem e_c3 {ss as} : kC3 jo ff ss (some (as, ρ)) = kC4 jo ss (ff as) ρ := rfl
theorem e_c4 {ss as} : kC4 jo ss (some (s, as)) ρ = some (s, leaA jo ss as ρ) := rfl
def kE0 (ρ : PSt → Option S) (x : AR) : AR := x.bind fun p => (ρ p.2).map fun c => (c :: p.1, p.2)
def kE1 (jo : Option Nat) (ss : List S) (x : ER) : AR := x.bind fun q => (entA jo ss q.2).map fun p => (q.1 :: p.1, p.2)
theorem e_en {ss} : entA none (s :: ss) ρ = kE1 none ss (frzS ρ s) := rfl
theorem e_en0 : entA none [] ρ = some ([], ρ) := rfl
theorem e_es0 {z : Nat} : entA (some z) [] ρ = some ([], ρ) := by cases z <;> rfl
theorem e_es {ss} {z : Nat} : entA (some (z + 1)) (s :: ss) ρ = kE1 (some z) ss (frzS ρ s) := rfl
theorem e_e1 {ss} : kE1 jo ss (some (s, ρ)) = kA2 s (entA jo ss ρ) := rfl
def kE2 (s : S) (x : AR) : AR := x.bind fun p => (keepS p.2 s).map fun c => (c :: p.1, p.2)
def kE3 (x : Option S) (ss : List S) (ρ : PSt) : AR := x.map fun c => (c :: ss, ρ)
theorem e_e0 {ss} : entA (some 0) (s :: ss) ρ = kE2 s (entA none ss ρ) := rfl
theorem e_e2 {ss} : kE2 s (some (ss, ρ)) = kE3 (keepS ρ s) ss ρ := rfl
theorem e_e3 {ss} : kE3 (some s) ss ρ = some (s :: ss, ρ) := rfl
def kKp (x : Option (Option S)) : Option S := match x with
    | some (some (.ol ds)) => some (.ol ds)
    | some (some (.od ds)) => some (.od ds)
    | _ => none
theorem e_kp : keepS ρ (.al i) = kKp ρ[i]? := rfl
theorem e_kpL {ds} : kKp (some (some (.ol ds))) = some (.ol ds) := rfl
theorem e_kpD {ds} : kKp (some (some (.od ds))) = some (.od ds) := rfl
def kFr (x : Option (PyData × PSt)) : ER := x.map fun q => (.fz q.1, q.2)
theorem e_fsS {ns} : frzS ρ (.sc ns) = some (.sc ns, ρ) := rfl
theorem e_fsF : frzS ρ (.fz d) = some (.fz d, ρ) := rfl
theorem e_fsA : frzS ρ (.al i) = kFr (cellF ρ i ρ[i]?) := rfl
theorem e_fsL {ds} : frzS ρ (.ol ds) = some (.fz (.list ds), ρ) := rfl
theorem e_kfr : kFr (some (d, ρ)) = some (.fz d, ρ) := rfl
theorem e_le0 {ss os} : leaA none ss os ρ = ρ := rfl
theorem e_le1 {ss os} : leaA (some 0) (.al i :: ss) (s :: os) ρ = ρ.set i (some s) := rfl
theorem e_le2 {s1 ss os} : leaA (some 1) (s1 :: .al i :: ss) (s2 :: s :: os) ρ = ρ.set i (some s) := rfl
variable {vs : List Nat}
def kLc (q : GF) (c : TF) (f : EF) (vs : List Nat) (x : Option (List PyData × PSt)) : ER := x.bind fun p => (compL q c f vs p.1 (wipeS p.2 vs) []).map fun r => (.ol r.1, r.2)
def kLc2 (x : Option (List PyData × PSt)) : ER := x.map fun r => (.ol r.1, r.2)
theorem e_comp : compF it q c f vs ρ = kLc q c f vs (it ρ) := rfl
theorem e_lc {ds} : kLc q c f vs (some (ds, ρ)) = kLc2 (compL q c f vs ds (wipeS ρ vs) []) := rfl
theorem e_lc2 {ds} : kLc2 (some (ds, ρ)) = some (.ol ds, ρ) := rfl
def kM1 (q : GF) (c : TF) (f : EF) (vs : List Nat) (ds acc : List PyData) (x : Option PSt) : Option (List PyData × PSt) := x.bind fun ρ2 => (c ρ2).bind fun p => if p.1 then (f p.2).bind fun q' => (S.frz q'.2 q'.1).bind fun r => if okN (acc.length + 1) then compL q c f vs ds (wipeS r.2 vs) (acc ++ [r.1]) else none
    else compL q c f vs ds (wipeS p.2 vs) acc
def kM2 (q : GF) (c : TF) (f : EF) (vs : List Nat) (ds acc : List PyData) (x : Option (Bool × PSt)) : Option (List PyData × PSt) := x.bind fun p => if p.1 then (f p.2).bind fun q' => (S.frz q'.2 q'.1).bind fun r => if okN (acc.length + 1) then compL q c f vs ds (wipeS r.2 vs) (acc ++ [r.1]) else none
    else compL q c f vs ds (wipeS p.2 vs) acc
def kM3 (q : GF) (c : TF) (f : EF) (vs : List Nat) (ds acc : List PyData) (x : ER) : Option (List PyData × PSt) := x.bind fun q' => (S.frz q'.2 q'.1).bind fun r => if okN (acc.length + 1) then compL q c f vs ds (wipeS r.2 vs) (acc ++ [r.1]) else none
def kM4 (q : GF) (c : TF) (f : EF) (vs : List Nat) (ds acc : List PyData) (x : Option (PyData × PSt)) : Option (List PyData × PSt) := x.bind fun r => if okN (acc.length + 1) then compL q c f vs ds (wipeS r.2 vs) (acc ++ [r.1]) else none
variable {ds acc : List PyData}
theorem e_m0 : compL q c f vs [] ρ acc = some (acc, ρ) := rfl
theorem e_m1 : compL q c f vs (d :: ds) ρ acc = kM1 q c f vs ds acc (q d ρ) := rfl
theorem e_m2 : kM1 q c f vs ds acc (some ρ) = kM2 q c f vs ds acc (c ρ) := rfl
theorem e_m3 : kM2 q c f vs ds acc (some (true, ρ)) = kM3 q c f vs ds acc (f ρ) := rfl
theorem e_m3F : kM2 q c f vs ds acc (some (false, ρ)) = compL q c f vs ds (wipeS ρ vs) acc := rfl
theorem e_m4 : kM3 q c f vs ds acc (some (s, ρ)) = kM4 q c f vs ds acc (S.frz ρ s) := rfl
theorem e_m5 : kM4 q c f vs ds acc (some (d, ρ)) = if okN (acc.length + 1) then compL q c f vs ds (wipeS ρ vs) (acc ++ [d]) else none := rfl
theorem e_yes : yesF ρ = some (true, ρ) := rfl
theorem e_wi0 : wipeS ρ [] = ρ := rfl
theorem e_wi1 : wipeS ρ (i :: vs) = (wipeS ρ vs).set i none := rfl
/-- star, keywords -/
def kStar (g : FF) (as : List S) (x : Option (List PyData)) : Option (S × List S) := x.bind fun ds => if okN ds.length then (g [.fz (.tuple ds)]).map fun r => (r.1, as) else none
theorem e_star {as} : starF ff as = kStar ff as (peekAll [] as) := rfl
def kStar2 (as : List S) (x : Option (S × List S)) : Option (S × List S) := x.map fun r => (r.1, as)
theorem e_star2 {as} : kStar ff as (some ds) = if okN ds.length then kStar2 as (ff [.fz (.tuple ds)]) else none := rfl
theorem e_star3 {as tt} : kStar2 as (some (s, tt)) = some (s, as) := rfl
end
/-! ### operations on whole numbers -/
section
variable {i j : Int} {b c : Bool}
theorem g_add : gAdd (.int i) (.int j) = some (.fz (.int (i + j))) := rfl
theorem g_sub : gSub (.int i) (.int j) = some (.fz (.int (i - j))) := rfl
theorem g_mul (h : i.natAbs.log2 + j.natAbs.log2 < 1000000) : gMul (.int i) (.int j) = some (.fz (.int (i * j))) := by
  have e : gI cMul (· * ·) (.int i) (.int j) = if cMul i j then some (.fz (.int (i * j))) else none := rfl
  unfold gMul orG
  rw [e, if_pos (show cMul i j = true from decide_eq_true h)]
theorem g_mod (h : 0 < j) : gMod (.int i) (.int j) = some (.fz (.int (i % j))) := by
  have e : gMod (.int i) (.int j) = if cMod i j then some (.fz (.int (i % j))) else none := rfl
  rw [e, if_pos (show cMod i j = true from decide_eq_true h)]
theorem g_div (h : 0 < j) (h2 : j.natAbs.log2 < 9000) : gDiv (.int i) (.int j) = some (.fz (.int (i / j))) := by
  have e : gI cDiv (· / ·) (.int i) (.int j) = if cDiv i j then some (.fz (.int (i / j))) else none := rfl
  unfold gDiv orG
  rw [e, if_pos (show cDiv i j = true by unfold cDiv; rw [decide_eq_true h, decide_eq_true h2]; rfl)]
theorem g_divN (h : j < 0) (h2 : j.natAbs < 1073741824) : gDiv (.int i) (.int j) = some (.fz (.int (Int.fdiv i j))) := by
  have e : gI cDiv (· / ·) (.int i) (.int j) = if cDiv i j then some (.fz (.int (i / j))) else none := rfl
  have e2 : gI cDivN Int.fdiv (.int i) (.int j) = if cDivN i j then some (.fz (.int (Int.fdiv i j))) else none := rfl
  unfold gDiv orG
  rw [e, if_neg (show ¬ cDiv i j = true by unfold cDiv; rw [decide_eq_false (by omega : ¬ 0 < j), Bool.false_and]; exact fun z => nomatch z), e2,
    if_pos (show cDivN i j = true by unfold cDivN; rw [decide_eq_true (by omega : j ≠ 0), decide_eq_true h2]; rfl)]
theorem g_lt : gLt (.int i) (.int j) = some (.fz (.bool (decide (i < j)))) := rfl
theorem g_le : gLe (.int i) (.int j) = some (.fz (.bool (decide (i ≤ j)))) := rfl
theorem g_gt : gGt (.int i) (.int j) = some (.fz (.bool (decide (j < i)))) := rfl
theorem g_ge : gGe (.int i) (.int j) = some (.fz (.bool (decide (j ≤ i)))) := rfl
theorem g_eqI : gEq (.int i) (.int j) = some (.fz (.bool (decide (i = j)))) := rfl
theorem g_eqS {x y : Str} : gEq (.str x) (.str y) = some (.fz (.bool (decide (x = y)))) := rfl
theorem g_neS {x y : Str} : gNe (.str x) (.str y) = some (.fz (.bool (!decide (x = y)))) := rfl
theorem g_neI : gNe (.int i) (.int j) = some (.fz (.bool (!decide (i = j)))) := rfl
theorem g_abs : gAbs [.int i] = some (.fz (.int (i.natAbs : Int))) := by show some (S.fz (.int (if i < 0 then -i else i))) = _; split <;> (congr 3; omega)
theorem g_gcd : gGcd [.int i, .int j] = some (.fz (.int ((Nat.gcd i.natAbs j.natAbs : Nat) : Int))) := rfl
end
theorem ok0 : okN 0 = true := by decide
theorem ok1 : okN 1 = true := by decide
theorem ok2 : okN 2 = true := by decide
theorem ok3 : okN 3 = true := by decide
theorem ok4 : okN 4 = true := by decide
theorem ok5 : okN 5 = true := by decide
theorem ok6 : okN 6 = true := by decide
theorem ok7 : okN 7 = true := by decide
theorem ok8 : okN 8 = true := by decide
theorem ok9 : okN 9 = true := by decide
theorem ok10 : okN 10 = true := by decide
theorem ok11 : okN 11 = true := by decide
theorem ok12 : okN 12 = true := by decide
theorem ok13 : okN 13 = true := by decide
theorem ok14 : okN 14 = true := by decide
theorem ok15 : okN 15 = true := by decide
theorem b_t {α : Sort _} {x y : α} : (if (true = true) then x else y) = x := rfl
end DL

/-! D13: data of whole numbers. -/
namespace DL
open L2 PySem PySem.Spec PyProof.Rows

theorem lay_ints : ∀ c : List Int, PyData.canLayAll0 (c.map .int) = true
  | [] => rfl
  | i :: c => by
    rw [List.map_cons, PyData.canLayAll0, lay_ints c]
    rfl
theorem dep_ints : ∀ c : List Int, PyData.depthAll (c.map .int) = 0
  | [] => rfl
  | i :: c => by
    rw [List.map_cons, PyData.depthAll, dep_ints c]
    rfl
theorem shaped_ints (c : List Int) : SeqAt.shaped (.list (c.map .int)) = true := by
  unfold SeqAt.shaped
  rw [PyData.canLay0, lay_ints, PyData.depth, dep_ints]
  rfl
theorem ne_nil_ints (c : List Int) : gNe (.list (c.map .int)) (.list []) = some (.fz (.bool (!c.isEmpty))) := by
  show gNe0 _ _ = _
  unfold gNe0
  rw [shaped_ints]
  cases c with
  | nil => rfl
  | cons i c => rfl
theorem atI_nn {α : Type} {xs : List α} {i : Int} (h : 0 ≤ i) : atI xs i = xs[i.toNat]? := by
  by_cases h2 : i < xs.length
  · unfold atI ixN
    rw [if_pos h, if_pos h2]
    rfl
  · unfold atI ixN
    rw [if_pos h, if_neg h2, List.getElem?_eq_none (by omega)]
    rfl
theorem log2_lt' {n k : Nat} (hk : 0 < k) (h : n < 2 ^ k) : n.log2 < k := by
  by_cases h0 : n = 0
  · subst h0; exact hk
  · exact (Nat.log2_lt h0).mpr h
theorem ix_list {ds : List PyData} {i : Int} {d : PyData} (h : 0 ≤ i) (e : ds[i.toNat]? = some d) : gIx (.list ds) (.int i) = some (.fz d) := by
  show (atI ds i).map S.fz = _
  rw [atI_nn h, e]
  rfl
theorem ix_tup {ds : List PyData} {i : Int} {d : PyData} (h : 0 ≤ i) (e : ds[i.toNat]? = some d) : gIx (.tuple ds) (.int i) = some (.fz d) := by
  show (atI ds i).map S.fz = _
  rw [atI_nn h, e]
  rfl
theorem t_0 {d : PyData} {ds : List PyData} : gIx (.tuple (d :: ds)) (.int 0) = some (.fz d) := ix_tup (by decide) rfl
theorem t_1 {d e : PyData} {ds : List PyData} : gIx (.tuple (d :: e :: ds)) (.int 1) = some (.fz e) := ix_tup (by decide) rfl
theorem gl_list {ds : List PyData} : gLen [.list ds] = some (.fz (.int ds.length)) := rfl
theorem gl_tup {ds : List PyData} : gLen [.tuple ds] = some (.fz (.int ds.length)) := rfl
theorem small_of {z : Int} {k : Nat} (hk : 0 < k) (h0 : 0 ≤ z) (h : z < 2 ^ k) : z.natAbs.log2 < k := log2_lt' hk (by
  have e : ((z.natAbs : Nat) : Int) = z := Int.natAbs_of_nonneg h0
  have h2 : ((z.natAbs : Nat) : Int) < ((2 ^ k : Nat) : Int) := by rw [e]; push_cast; exact h
  exact Int.ofNat_lt.mp h2)
end DL

/-! D14: tuples cut with a step, constants of the module, all, any, str, ord, upper. -/
namespace DL
open L2 PySem PySem.Spec PyProof.Rows

def aplT (n : Nat) (lo hi : Option Int) (st : Int) : Int × Nat := ((Builtin.Slice.sliceAdjust lo hi st (n : Int)).1, Builtin.Slice.slicePlaces (Builtin.Slice.sliceAdjust lo hi st (n : Int)).1 (Builtin.Slice.sliceAdjust lo hi st (n : Int)).2 st)
def placesT (n : Nat) (lo hi : Option Int) (st : Int) : List Nat := (List.range (aplT n lo hi st).2).map fun (m : Nat) => ((aplT n lo hi st).1 + (m : Int) * st).toNat
def pickT {α : Type} (xs : List α) (lo hi : Option Int) (st : Int) : List α := (placesT xs.length lo hi st).filterMap (xs[·]?)
theorem apl_step {prog : Program} {w : World} {A : Around} {E : Value → Shared → Prop} {s : Shared} {sl : Addr} {vl vu vs : Value} {lo hi : Option Int} {st : Int} {n : Nat} {Q : Int × Int × Nat → Shared → Prop} (hs : s.heap.IsSliceOf sl vl vu vs) (pl : IsPart vl lo) (pu : IsPart vu hi) (ps : IsPart vs (some st)) (h0 : st ≠ 0)
    (h : Q ((aplT n lo hi st).1, st, (aplT n lo hi st).2) s) : wpAny (model prog w) A (Builtin.Slice.sliceApplied (.ref sl) (pure (n : Int))) Q E s := by
  obtain ⟨os, hos, hcs, hds⟩ := id hs
  unfold Builtin.Slice.sliceApplied Builtin.Slice.sliceFields
  refine wpAny_bind (wpAny_bind (wpAny_field hos hds (x := vl) rfl (wpAny_bind (wpAny_field hos hds (x := vu) rfl (wpAny_bind (wpAny_field hos hds (x := vs) rfl (wpAny_pure ?_)))))))
  refine wpAny_bind (HT.slicePart_ ps ?_)
  show wpAny _ _ (if (st == 0) = true then _ else _) _ _ s
  rw [if_neg (by simpa using h0)]
  refine wpAny_bind (HT.slicePart_ pl (wpAny_bind (HT.slicePart_ pu (wpAny_bind (wpAny_pure ?_)))))
  exact wpAny_pure h
theorem tup_step {prog : Program} {w : World} {A : Around} {E : Value → Shared → Prop} {s : Shared} {t sl : Addr} {items : Array Value} {vl vu vs : Value} {lo hi : Option Int} {st : Int} {Q : Value → Shared → Prop} (ht : IsTup s.heap t items) (hs : s.heap.IsSliceOf sl vl vu vs) (pl : IsPart vl lo) (pu : IsPart vu hi) (ps : IsPart vs (some st)) (h0 : st ≠ 0) (h1 : st ≠ 1)
    (h : Q (.ref s.heap.objs.size) { s with heap := s.heap.push { cls := .type "tuple", data := .seq (pickT items.toList lo hi st).toArray } }) (hsz : (pickT items.toList lo hi st).length ≤ sizeLine) : wpAny (model prog w) A (getItem (.ref t) (.ref sl)) Q E s := by
  have htake : sizeOk (.seq (pickT items.toList lo hi st).toArray) := by
    show (pickT items.toList lo hi st).toArray.size ≤ sizeLine
    rw [List.size_toArray]
    exact hsz
  obtain ⟨os, hos, hcs, hds⟩ := id hs
  have hTs : s.TypeIs (.ref sl) "slice" := ⟨os, hos, hcs⟩
  unfold getItem
  try with_reducible refine wpAny_holding ?_
  first | refine wpAny_bind (wpAny_pure ?_) | skip
  refine wpAny_bind (wpAny_sequenceKey ht.typeIs (by decide) ?_)
  refine wpAny_bind (wpAny_callSpecial?_slot (name := Str.ofString "__getitem__") ht.typeIs PyProof.Rows.slot_tuple_getitem
    (wpAny_call_entry PyProof.Rows.slot_tuple_getitem ht.typeIs entry_tuple_getitem ?_ (args_tuple_getitem _ _)))
  show wpAny _ _ (Builtin.Tuple.tupleItemsOf (.ref t) >>= _) _ _ s
  refine wpAny_bind (PyProof.Rows.tupleItemsOf_ ht ?_)
  refine wpAny_bind (wpAny_typeOf hTs ?_)
  rw [if_pos (by decide)]
  refine wpAny_bind (apl_step hs pl pu ps h0 ?_)
  have hno : ¬ (((aplT items.size lo hi st).1 == 0 && st == 1 && (aplT items.size lo hi st).2 == items.size) = true) := by
    intro q
    rw [Bool.and_eq_true, Bool.and_eq_true] at q
    exact h1 (eq_of_beq q.1.2)
  show wpAny _ _ (if ((aplT items.size lo hi st).1 == 0 && st == 1 && (aplT items.size lo hi st).2 == items.size) = true then _ else _) _ _ s
  rw [if_neg hno]
  have e : ((List.range (aplT items.size lo hi st).2).filterMap fun (m : Nat) => items[((aplT items.size lo hi st).1 + (m : Int) * st).toNat]?) = pickT items.toList lo hi st := by
    unfold pickT placesT
    rw [List.filterMap_map, Array.length_toList]
    congr 1
    funext m
    simp
  rw [e]
  first
    | exact wpAny_bind (m := Builtin.Tuple.tupleExact _) (wpAny_newObj_type (wpAny_pure ⟨_, rfl, wpAny_pure h⟩) htake)
    | exact wpAny_bind (m := Builtin.Tuple.tupleExact _) (wpAny_newObj_type (wpAny_bind (wpAny_pure (wpAny_pure ⟨_, rfl, wpAny_pure h⟩))) htake)

section
variable {X : Cx} {pos : Pos}
/-- the first that answers -/
def orE (f g : EF) : EF := fun ρ => match f ρ with
  | some r => some r
  | none => g ρ
theorem de_or2 {e : Expr} {f g : EF} (h1 : DE X e f) (h2 : DE X e g) : DE X e (orE f g) := by
  obtain ⟨t1, p1, s1⟩ := h1
  obtain ⟨t2, p2, s2⟩ := h2
  refine ⟨fun σ H Q => t1 σ H Q ∨ t2 σ H Q, ⟨fun pins s σ H Q I h => h.elim (p1.run pins s σ H Q I) (p2.run pins s σ H Q I)⟩, fun G ρ σ H s ρ' Q R e q => ?_⟩
  unfold orE at e
  split at e
  · rename_i r er
    cases e
    exact .inl (s1 G ρ σ H _ _ Q R er q)
  · exact .inr (s2 G ρ σ H s ρ' Q R e q)
/-- t[lo:hi:st] -/
def stTF (f : EF) (l h k : PF) : EF := fun ρ => (f ρ).bind fun p => (l p.2).bind fun q => (h q.2).bind fun r => (k r.2).bind fun w => (S.peek w.2 p.1).bind fun d => match d, w.1 with
  | .tuple ds, some st => if decide (st ≠ 0) && (decide (st ≠ 1) && okN (pickT ds q.1 r.1 st).length) then some (.fz (.tuple (pickT ds q.1 r.1 st)), w.2) else none
  | _, _ => none
def tStT (K : PySem.W.Frag) (te : TE) (tl th tk : TO) : TE := fun σ H Q => te σ H fun v H1 => tl σ H1 fun l H2 => th σ H2 fun u H3 => tk σ H3 fun w H4 => ∃ a xs st, v = .ref a ∧ SqT K H4 a xs ∧ w = some st ∧ st ≠ 0 ∧ st ≠ 1 ∧ (pickT xs l u st).length ≤ sizeLine ∧ ∀ p, H4 p = none → Q (.ref p) (upd H4 p (.tup (pickT xs l u st)))
theorem pickT_vals {xs : List V} {us : List Value} (h : Vals xs us) (lo hi : Option Int) (st : Int) : Vals (pickT xs lo hi st) (pickT us lo hi st) := by
  unfold pickT
  rw [h.length]
  exact places_vals h _
theorem pickT_data {K : PySem.W.Frag} {A : Hp} {vs : List V} {ds : List PyData} (h : DqAll K A vs ds) (lo hi : Option Int) (st : Int) : DqAll K A (pickT vs lo hi st) (pickT ds lo hi st) := by
  unfold pickT
  rw [h.len]
  exact places_data h _
theorem pe_sliceT {e st : Expr} {lo hi : Option Expr} {te : TE} {tl th tk : TO} {p2 : Pos} (he : PE X e te) (hl : PO X lo tl) (hu : PO X hi th) (hk : PO X (some st) tk) : PE X (.Subscript e (.Slice lo hi (some st) p2) pos) (tStT X.K te tl th tk) := by
  refine ⟨fun pins s σ H Q I h => ?_⟩
  refine Subscript_ (thn (he.run pins s σ H _ I h) fun v s1 ⟨x, H1, I1, r1, q1⟩ => ?_)
  refine wpAny_Slice (thn (hl.run pins s1 σ H1 _ I1 q1) fun vl s2 ⟨l, H2, I2, pl, q2⟩ => ?_)
  refine thn (hu.run pins s2 σ H2 _ I2 q2) fun vu s3 ⟨u, H3, I3, pu, q3⟩ => ?_
  refine thn (hk.run pins s3 σ H3 _ I3 q3) fun vs s4 ⟨o, H4, I4, ps, q4⟩ => ?_
  obtain ⟨a, xs, k, ex, hx, eo, h0, h1, hz, q⟩ := q4
  subst ex eo
  cases r1
  have I5 : Inv X pins σ H4 { s4 with heap := s4.heap.push { cls := .type "slice", data := .fields #[vl, vu, vs] } } := I4.kept (t' := s4.toks) fun b ob q => Heap.get?_push_of_some _ q
  obtain ⟨its, r, ht, _⟩ := I5.tuple hx
  have hlen := (pickT_vals r l u k).length
  show wpAny (model X.prog X.w) X.A (subscriptTail e (.Slice lo hi (some st) p2) (.ref a) (.ref s4.heap.objs.size)) (EP X pins σ Q) X.xe { s4 with heap := s4.heap.push { cls := .type "slice", data := .fields #[vl, vu, vs] } }
  refine tail_any (ops := [.ref a, .ref s4.heap.objs.size]) ht.typeIs PyProof.Rows.slot_tuple_getitem.lookup ?_ (by with_unfolding_all rfl)
  refine tup_step ht (Heap.IsSliceOf.new _ vl vu vs) pl pu ps h0 h1 ?_ (by show (pickT its l u k).length ≤ _; rw [← hlen]; exact hz)
  refine ⟨.ref _, _, I5.laid (t' := s4.toks) (o := .tup (pickT xs l u k)) (fun b ob q => Heap.get?_push_of_some _ q) (Nat.le_refl _) ?_, rfl, q _ (I5.hok.fresh (Nat.le_refl _))⟩
  exact ⟨hz, _, pickT_vals r l u k, IsTup.new _ _⟩
theorem de_sliceT {e st : Expr} {lo hi : Option Expr} {f : EF} {l h k : PF} {p2 : Pos} (he : DE X e f) (hl : DP X lo l) (hh : DP X hi h) (hk : DP X (some st) k) : DE X (.Subscript e (.Slice lo hi (some st) p2) pos) (stTF f l h k) := by
  obtain ⟨t, p, s0⟩ := he
  obtain ⟨tl, pl, sl⟩ := hl
  obtain ⟨th, ph, sh⟩ := hh
  obtain ⟨tk, pk, sk⟩ := hk
  refine ⟨_, pe_sliceT p pl ph pk, fun G ρ σ H s ρ' Q R e q => ?_⟩
  obtain ⟨⟨s1, ρ1⟩, e1, e⟩ := of_bind e
  obtain ⟨⟨o2, ρ2⟩, e2, e⟩ := of_bind e
  obtain ⟨⟨o3, ρ3⟩, e3, e⟩ := of_bind e
  obtain ⟨⟨o4, ρ4⟩, e4, e⟩ := of_bind e
  obtain ⟨d, e5, e⟩ := of_bind e
  refine s0 G ρ σ H s1 ρ1 _ R e1 fun v G1 H1 E1 => ?_
  refine sl G1 ρ1 σ H1 o2 ρ2 _ E1.rl e2 fun G2 H2 R2 p2 => ?_
  refine sh G2 ρ2 σ H2 o3 ρ3 _ R2 e3 fun G3 H3 R3 p3 => ?_
  refine sk G3 ρ3 σ H3 o4 ρ4 _ R3 e4 fun G4 H4 R4 p4 => ?_
  have kk := ((E1.res.later p2).later p3).later p4
  have pp := ((E1.st.trans p2).trans p3).trans p4
  have pk := peek_ok R4 kk e5
  cases d with
  | tuple ds =>
    cases o4 with
    | none => cases e
    | some st =>
      obtain ⟨a, xs, ea, ha, da, _⟩ := pk.tup R4.sub
      subst ea
      obtain ⟨c, e'⟩ := of_ite (show (if decide (st ≠ 0) && (decide (st ≠ 1) && okN (pickT ds o2 o3 st).length) then some (S.fz (.tuple (pickT ds o2 o3 st)), ρ4) else none) = some (s, ρ') from e)
      cases e'
      rw [Bool.and_eq_true, Bool.and_eq_true] at c
      have dd := pickT_data da o2 o3 st
      exact ⟨a, xs, st, rfl, ha, rfl, of_decide_eq_true c.1, of_decide_eq_true c.2.1, by rw [dd.len]; exact okN_le c.2.2, fun p n => q _ _ _ (ev_new R4 pp (.tup R4.sub n dd))⟩
  | _ => cases e
/-- a constant of the module -/
theorem de_gint {x : Str} {i : Int} (hg : Gl X x) (hm : ∃ t, X.mg x = some (.int i t)) (hd : (x == ("__debug__" : Str)) = false := by decide) : DE X (.Name x pos) (cF (.int i)) := by
  obtain ⟨t, hm⟩ := hm
  exact de_of_c (pe_glob (v := .int i) hg hm ⟨_, rfl⟩ hd) fun _ => .int i
theorem de_gstr {x z : Str} (hg : Gl X x) (hm : ∃ t, X.mg x = some (.str z t)) (hd : (x == ("__debug__" : Str)) = false := by decide) : DE X (.Name x pos) (cF (.str z)) := by
  obtain ⟨t, hm⟩ := hm
  exact de_of_c (pe_glob (v := .str z) hg hm ⟨_, rfl⟩ hd) fun _ => .str z
/-- all, any of a list of bools -/
def boolsD : List PyData → Option (List Bool)
  | [] => some []
  | .bool b :: ds => (boolsD ds).map fun bs => b :: bs
  | _ :: _ => none
theorem bools_ok {K : PySem.W.Frag} {G : Hp} : ∀ {ds : List PyData} {bs : List Bool} {vs : List V}, boolsD ds = some bs → DqAll K G vs ds → vs = bs.map V.bl
  | [], _, _, e, .nil => by cases e; rfl
  | .bool b :: ds, _, _, e, .cons h t => by
    obtain ⟨bs, e1, e2⟩ := of_map e
    subst e2
    cases h
    rw [List.map_cons, bools_ok e1 t]
  | .none :: _, _, _, e, _ => by cases e
  | .int _ :: _, _, _, e, _ => by cases e
  | .str _ :: _, _, _, e, _ => by cases e
  | .list _ :: _, _, _, e, _ => by cases e
  | .tuple _ :: _, _, _, e, _ => by cases e
  | .dict _ :: _, _, _, e, _ => by cases e
def gAll : List PyData → Option S
  | [.list ds] => (boolsD ds).map fun bs => .fz (.bool (bs.all id))
  | _ => none
def gAny : List PyData → Option S
  | [.list ds] => (boolsD ds).map fun bs => .fz (.bool (bs.any id))
  | _ => none
theorem dcl_all (hc : X.calm = true) : DCl X (.builtin "all") gAll := by
  refine ⟨_, cr_all hc, fun G H vs ds s Q sg pk eg q => ?_⟩
  match ds, pk with
  | [.list xs], .cons h .nil =>
    obtain ⟨bs, e1, e2⟩ := of_map (show (boolsD xs).map _ = some s from eg)
    subst e2
    obtain ⟨a, ys, ea, ha, da⟩ := h.list sg
    subst ea
    have := bools_ok e1 da
    subst this
    exact ⟨a, bs, rfl, .of ha, q _ G H (.same sg (.bl _))⟩
theorem dcl_any (hc : X.calm = true) : DCl X (.builtin "any") gAny := by
  refine ⟨_, cr_any hc, fun G H vs ds s Q sg pk eg q => ?_⟩
  match ds, pk with
  | [.list xs], .cons h .nil =>
    obtain ⟨bs, e1, e2⟩ := of_map (show (boolsD xs).map _ = some s from eg)
    subst e2
    obtain ⟨a, ys, ea, ha, da⟩ := h.list sg
    subst ea
    have := bools_ok e1 da
    subst this
    exact ⟨a, bs, rfl, .of ha, q _ G H (.same sg (.bl _))⟩
/-- str(x) -/
def gStr : List PyData → Option S
  | [.int i] => if decide (i.natAbs.log2 < 1920) then some (.fz (.str (toString i : String))) else none
  | [.str z] => some (.fz (.str z))
  | [.bool b] => some (.fz (.str (if b then "True" else "False" : String)))
  | _ => none
theorem call_str3 : CallR X (.type "str") (fun xs H Q => (∃ i, xs = [.int i] ∧ i.natAbs.log2 < 1920 ∧ Q (.str (toString i : String)) H) ∨ (∃ a, xs = [.str a] ∧ Q (.str a) H) ∨ ∃ b : Bool, xs = [.bl b] ∧ Q (.str (if b then "True" else "False" : String)) H) := by
  intro pins s σ H xs us Q I r h
  rcases h with h | h | ⟨b, rfl, q⟩
  · exact call_str_int pins s σ H xs us Q I r h
  · exact SkE.call_str_str pins s σ H xs us Q I r h
  · obtain ⟨u, rfl, r1⟩ := vals1 r
    cases r1
    exact PySem.P.str_of_bool ⟨.str _, H, I.tok _, ⟨_, rfl⟩, by cases b <;> exact q⟩
theorem dcl_str : DCl X (.type "str") gStr := by
  refine ⟨_, call_str3, fun G H vs ds s Q sg pk eg q => ?_⟩
  match ds, pk with
  | [.int i], .cons h .nil =>
    obtain ⟨c, e⟩ := of_ite (show (if decide (i.natAbs.log2 < 1920) then some (S.fz (.str (toString i : String))) else none) = some s from eg)
    subst e
    rw [h.int]
    exact .inl ⟨i, rfl, of_decide_eq_true c, q _ G H (.same sg (.str _))⟩
  | [.str z], .cons h .nil =>
    cases eg
    rw [h.str]
    exact .inr (.inl ⟨z, rfl, q _ G H (.same sg (.str _))⟩)
  | [.bool b], .cons h .nil =>
    cases eg
    rw [h.bool]
    exact .inr (.inr ⟨b, rfl, q _ G H (.same sg (.str _))⟩)
/-- ord(c) -/
def gOrd : List PyData → Option S
  | [.str z] => if decide (z.length = 1) then some (.fz (.int (z.cps.getD 0 0 : Nat))) else none
  | _ => none
theorem dcl_ord : DCl X (.builtin "ord") gOrd := by
  refine ⟨_, call_ord, fun G H vs ds s Q sg pk eg q => ?_⟩
  match ds, pk with
  | [.str z], .cons h .nil =>
    obtain ⟨c, e⟩ := of_ite (show (if decide (z.length = 1) then some (S.fz (.int (z.cps.getD 0 0 : Nat))) else none) = some s from eg)
    subst e
    rw [h.str]
    exact ⟨z, rfl, of_decide_eq_true c, q _ G H (.same sg (.int _))⟩
/-- x.upper() -/
def uppF (f : EF) : EF := fun ρ => (f ρ).bind fun p => (S.peek p.2 p.1).bind fun d => match d with
  | .str z => if okN z.length then some (.fz (.str (Txt.upper z)), p.2) else none
  | _ => none
theorem de_upper {o : Expr} {f : EF} {apos : Pos} (ho : DE X o f) (hbase : attributeBase o "upper" X.env (eval o X.env) = eval o X.env := by rfl) (hline : (apos.endLine == pos.line) = true := by rfl) : DE X (.Call (.Attribute o "upper" apos) [] [] pos) (uppF f) := by
  obtain ⟨t, p, s0⟩ := ho
  refine ⟨_, pe_upper p hbase hline, fun G ρ σ H s ρ' Q R e q => ?_⟩
  obtain ⟨⟨s1, ρ1⟩, e1, e⟩ := of_bind e
  obtain ⟨d, e2, e⟩ := of_bind e
  refine s0 G ρ σ H s1 ρ1 _ R e1 fun v G1 H1 E1 => ?_
  have pk := peek_ok E1.rl E1.res e2
  cases d with
  | str z =>
    obtain ⟨c, e'⟩ := of_ite (show (if okN z.length then some (S.fz (.str (Txt.upper z)), ρ1) else none) = some (s, ρ') from e)
    cases e'
    rw [pk.str]
    exact ⟨⟨z, rfl⟩, z, rfl, rfl, Nat.le_trans (of_decide_eq_true c) (by decide), q _ G1 H1 ⟨E1.rl, E1.st, .str _⟩⟩
  | _ => cases e
end
theorem bt_all : bootBuiltins "all" = some (.builtin "all") := by rfl
theorem bt_any : bootBuiltins "any" = some (.builtin "any") := by rfl
theorem bt_ord : bootBuiltins "ord" = some (.builtin "ord") := by rfl
end DL

/-! D15: more steps. -/
namespace DL
open L2 PySem PySem.Spec PyProof.Rows

section
variable {ρ ρ1 : PSt} {s s1 s2 : S} {f f1 f2 g : EF} {d e : PyData} {i : Nat} {T : String}
def kIs (T : String) (x : ER) : ER := x.bind fun p => (argS p.1 p.2).bind fun q => (S.peek q.2 q.1).bind fun d => (kitB (tyD d) T).map fun b => (.fz (.bool b), q.2)
def kIs2 (x : Option Bool) (ρ : PSt) : ER := x.map fun b => (.fz (.bool b), ρ)
theorem e_isi : isiF T f ρ = kIs T (f ρ) := rfl
theorem e_is1 : kIs T (some (.fz d, ρ)) = kIs2 (kitB (tyD d) T) ρ := rfl
theorem e_is2 {b : Bool} : kIs2 (some b) ρ = some (.fz (.bool b), ρ) := rfl
def kOrE (x y : ER) : ER := match x with
  | some r => some r
  | none => y
theorem e_orE : orE f g ρ = kOrE (f ρ) (g ρ) := rfl
theorem e_orE1 {r : S × PSt} {y : ER} : kOrE (some r) y = some r := rfl
theorem e_orE2 {y : ER} : kOrE none y = y := rfl
/-- own lists changed -/
def kAp1 (g : EF) (x : ER) : ER := x.bind fun p => (alS p.1).bind fun i => (cellL p.2[i]?).bind fun _ => (g p.2).bind fun q => (S.frz q.2 q.1).bind fun r => (cellL r.2[i]?).bind fun ds =>
  if okN (ds.length + 1) then some (.fz .none, r.2.set i (some (.ol (ds ++ [r.1])))) else none
def kAp2 (g : EF) (i : Nat) (x : Option (List PyData)) (ρ : PSt) : ER := x.bind fun _ => (g ρ).bind fun q => (S.frz q.2 q.1).bind fun r => (cellL r.2[i]?).bind fun ds =>
  if okN (ds.length + 1) then some (.fz .none, r.2.set i (some (.ol (ds ++ [r.1])))) else none
def kAp3 (i : Nat) (x : ER) : ER := x.bind fun q => (S.frz q.2 q.1).bind fun r => (cellL r.2[i]?).bind fun ds =>
  if okN (ds.length + 1) then some (.fz .none, r.2.set i (some (.ol (ds ++ [r.1])))) else none
def kAp4 (i : Nat) (x : Option (PyData × PSt)) : ER := x.bind fun r => (cellL r.2[i]?).bind fun ds =>
  if okN (ds.length + 1) then some (.fz .none, r.2.set i (some (.ol (ds ++ [r.1])))) else none
def kAp5 (i : Nat) (d : PyData) (x : Option (List PyData)) (ρ : PSt) : ER := x.bind fun ds => if okN (ds.length + 1) then some (.fz .none, ρ.set i (some (.ol (ds ++ [d])))) else none
theorem e_app : appF f g ρ = kAp1 g (f ρ) := rfl
theorem e_ap1 : kAp1 g (some (.al i, ρ)) = kAp2 g i (cellL ρ[i]?) ρ := rfl
theorem e_ap2 {ds} : kAp2 g i (some ds) ρ = kAp3 i (g ρ) := rfl
theorem e_ap3 : kAp3 i (some (s, ρ)) = kAp4 i (S.frz ρ s) := rfl
theorem e_ap4 : kAp4 i (some (d, ρ)) = kAp5 i d (cellL ρ[i]?) ρ := rfl
theorem e_ap5 {ds} : kAp5 i d (some ds) ρ = if okN (ds.length + 1) then some (.fz .none, ρ.set i (some (.ol (ds ++ [d])))) else none := rfl
def kEx1 (g : EF) (x : ER) : ER := x.bind fun p => (alS p.1).bind fun i => (cellL p.2[i]?).bind fun _ => (g p.2).bind fun q => (S.frz q.2 q.1).bind fun r => (lstD r.1).bind fun es => (cellL r.2[i]?).bind fun ds =>
  if okN (ds.length + es.length) then some (.fz .none, r.2.set i (some (.ol (ds ++ es)))) else none
def kEx2 (g : EF) (i : Nat) (x : Option (List PyData)) (ρ : PSt) : ER := x.bind fun _ => (g ρ).bind fun q => (S.frz q.2 q.1).bind fun r => (lstD r.1).bind fun es => (cellL r.2[i]?).bind fun ds =>
  if okN (ds.length + es.length) then some (.fz .none, r.2.set i (some (.ol (ds ++ es)))) else none
def kEx3 (i : Nat) (x : ER) : ER := x.bind fun q => (S.frz q.2 q.1).bind fun r => (lstD r.1).bind fun es => (cellL r.2[i]?).bind fun ds =>
  if okN (ds.length + es.length) then some (.fz .none, r.2.set i (some (.ol (ds ++ es)))) else none
def kEx4 (i : Nat) (x : Option (PyData × PSt)) : ER := x.bind fun r => (lstD r.1).bind fun es => (cellL r.2[i]?).bind fun ds =>
  if okN (ds.length + es.length) then some (.fz .none, r.2.set i (some (.ol (ds ++ es)))) else none
def kEx5 (i : Nat) (es : List PyData) (x : Option (List PyData)) (ρ : PSt) : ER := x.bind fun ds => if okN (ds.length + es.length) then some (.fz .none, ρ.set i (some (.ol (ds ++ es)))) else none
theorem e_ext : extF f g ρ = kEx1 g (f ρ) := rfl
theorem e_ex1 : kEx1 g (some (.al i, ρ)) = kEx2 g i (cellL ρ[i]?) ρ := rfl
theorem e_ex2 {ds} : kEx2 g i (some ds) ρ = kEx3 i (g ρ) := rfl
theorem e_ex3 : kEx3 i (some (s, ρ)) = kEx4 i (S.frz ρ s) := rfl
theorem e_ex4 {es} : kEx4 i (some (.list es, ρ)) = kEx5 i es (cellL ρ[i]?) ρ := rfl
theorem e_ex5 {es ds} : kEx5 i es (some ds) ρ = if okN (ds.length + es.length) then some (.fz .none, ρ.set i (some (.ol (ds ++ es)))) else none := rfl
/-- chains of two comparisons -/
def kCh1 (h h' : PyData → PyData → Option S) (f2 f3 : EF) (x : ER) : ER := x.bind fun p => (f2 p.2).bind fun q => (p.1.peek q.2).bind fun d => (q.1.peek q.2).bind fun e => (h d e).bind fun s => (boolS s).bind fun b =>
    if b then (f3 q.2).bind fun r => (q.1.peek r.2).bind fun d => (r.1.peek r.2).bind fun e => (h' d e).map fun s => (s, r.2) else some (.fz (.bool false), q.2)
def kCh2 (h h' : PyData → PyData → Option S) (s : S) (f3 : EF) (x : ER) : ER := x.bind fun q => (s.peek q.2).bind fun d => (q.1.peek q.2).bind fun e => (h d e).bind fun s => (boolS s).bind fun b =>
    if b then (f3 q.2).bind fun r => (q.1.peek r.2).bind fun d => (r.1.peek r.2).bind fun e => (h' d e).map fun s => (s, r.2) else some (.fz (.bool false), q.2)
def kCh3 (h h' : PyData → PyData → Option S) (x y : Option PyData) (s2 : S) (f3 : EF) (ρ : PSt) : ER := x.bind fun d => y.bind fun e => (h d e).bind fun s => (boolS s).bind fun b =>
    if b then (f3 ρ).bind fun r => (s2.peek r.2).bind fun d => (r.1.peek r.2).bind fun e => (h' d e).map fun s => (s, r.2) else some (.fz (.bool false), ρ)
def kCh4 (h' : PyData → PyData → Option S) (x : Option S) (s2 : S) (f3 : EF) (ρ : PSt) : ER := x.bind fun s => (boolS s).bind fun b =>
    if b then (f3 ρ).bind fun r => (s2.peek r.2).bind fun d => (r.1.peek r.2).bind fun e => (h' d e).map fun s => (s, r.2) else some (.fz (.bool false), ρ)
variable {h h' : PyData → PyData → Option S} {f3 : EF}
theorem e_ch : chF h h' f1 f2 f3 ρ = kCh1 h h' f2 f3 (f1 ρ) := rfl
theorem e_ch1 : kCh1 h h' f2 f3 (some (s, ρ)) = kCh2 h h' s f3 (f2 ρ) := rfl
theorem e_ch2 : kCh2 h h' s f3 (some (s2, ρ)) = kCh3 h h' (s.peek ρ) (s2.peek ρ) s2 f3 ρ := rfl
theorem e_ch3 : kCh3 h h' (some d) (some e) s2 f3 ρ = kCh4 h' (h d e) s2 f3 ρ := rfl
theorem e_ch4 : kCh4 h' (some (.fz (.bool true))) s2 f3 ρ = kO2 h' s2 (f3 ρ) := rfl
theorem e_ch5 : kCh4 h' (some (.fz (.bool false))) s2 f3 ρ = some (.fz (.bool false), ρ) := rfl
theorem g_is : gIs d .none = some (.fz (.bool (isNone d))) := rfl
theorem g_isNot : gIsNot d .none = some (.fz (.bool (!isNone d))) := rfl
theorem g_str2 {z : Str} : gStr [.str z] = some (.fz (.str z)) := rfl
end
end DL

/-! D16: data within bounds: whole numbers below 2^B, short plain texts, depth, bulk. -/
namespace DL
open L2 PySem PySem.Spec PyProof.Rows

mutual
def okD (B L : Nat) : PyData → Bool
  | .none => true
  | .bool _ => true
  | .int i => decide (i.natAbs < 2 ^ B)
  | .str z => z.cps.toList.all (fun c => decide (c < 128)) && decide (z.length ≤ L)
  | .list ds => okDs B L ds
  | .tuple ds => okDs B L ds
  | .dict _ => false
def okDs (B L : Nat) : List PyData → Bool
  | [] => true
  | d :: ds => okD B L d && okDs B L ds
end
section
variable {B L : Nat}
theorem okDs_iff : ∀ {ds : List PyData}, okDs B L ds = true ↔ ∀ d ∈ ds, okD B L d = true
  | [] => by simp [okDs]
  | d :: ds => by rw [okDs, Bool.and_eq_true, okDs_iff]; simp
theorem okDs_app {a b : List PyData} (h : okDs B L a = true) (h2 : okDs B L b = true) : okDs B L (a ++ b) = true :=
  okDs_iff.mpr fun d hd => (List.mem_append.mp hd).elim (okDs_iff.mp h d) (okDs_iff.mp h2 d)
theorem okDs_sub {a b : List PyData} (h : okDs B L b = true) (hs : ∀ d ∈ a, d ∈ b) : okDs B L a = true := okDs_iff.mpr fun d hd => okDs_iff.mp h d (hs d hd)
mutual
theorem okD_lay : ∀ d : PyData, okD B L d = true → d.canLay0 = true
  | .none, _ => rfl
  | .bool _, _ => rfl
  | .int _, _ => rfl
  | .str z, h => by
    rw [okD, Bool.and_eq_true] at h
    show (z.cps.all fun c => decide (c < 0x110000)) = true
    rw [← Array.all_toList, List.all_eq_true]
    intro c hc
    have := of_decide_eq_true (List.all_eq_true.mp h.1 c hc)
    exact decide_eq_true (by omega)
  | .list ds, h => by
    rw [okD] at h
    rw [PyData.canLay0]
    exact okDs_lay ds h
  | .tuple ds, h => by
    rw [okD] at h
    rw [PyData.canLay0]
    exact okDs_lay ds h
  | .dict _, h => by rw [okD] at h; cases h
theorem okDs_lay : ∀ ds : List PyData, okDs B L ds = true → PyData.canLayAll0 ds = true
  | [], _ => rfl
  | d :: ds, h => by
    rw [okDs, Bool.and_eq_true] at h
    rw [PyData.canLayAll0, okD_lay d h.1, okDs_lay ds h.2]
    rfl
end
mutual
theorem okD_show (hB : 0 < B) (hB2 : B ≤ 1920) : ∀ d : PyData, okD B L d = true → d.showable = true
  | .none, _ => rfl
  | .bool _, _ => rfl
  | .str _, _ => rfl
  | .int i, h => by
    rw [okD] at h
    have h1 := log2_lt' hB (of_decide_eq_true h)
    simp only [PyData.showable, decide_eq_true_eq]
    omega
  | .list ds, h => by
    rw [okD] at h
    rw [PyData.showable]
    exact okDs_show hB hB2 ds h
  | .tuple ds, h => by
    rw [okD] at h
    rw [PyData.showable]
    exact okDs_show hB hB2 ds h
  | .dict _, h => by rw [okD] at h; cases h
theorem okDs_show (hB : 0 < B) (hB2 : B ≤ 1920) : ∀ ds : List PyData, okDs B L ds = true → PyData.showableAll ds = true
  | [], _ => rfl
  | d :: ds, h => by
    rw [okDs, Bool.and_eq_true] at h
    rw [PyData.showableAll, okD_show hB hB2 d h.1, okDs_show hB hB2 ds h.2]
    rfl
end
mutual
theorem okD_up {B2 L2' : Nat} (hB : B ≤ B2) (hL : L ≤ L2') : ∀ d : PyData, okD B L d = true → okD B2 L2' d = true
  | .none, _ => rfl
  | .bool _, _ => rfl
  | .int i, h => by
    rw [okD] at h ⊢
    exact decide_eq_true (Nat.lt_of_lt_of_le (of_decide_eq_true h) (Nat.pow_le_pow_right (by decide) hB))
  | .str z, h => by
    rw [okD, Bool.and_eq_true] at h ⊢
    exact ⟨h.1, decide_eq_true (Nat.le_trans (of_decide_eq_true h.2) hL)⟩
  | .list ds, h => by
    rw [okD] at h ⊢
    exact okDs_up hB hL ds h
  | .tuple ds, h => by
    rw [okD] at h ⊢
    exact okDs_up hB hL ds h
  | .dict _, h => by rw [okD] at h; cases h
theorem okDs_up {B2 L2' : Nat} (hB : B ≤ B2) (hL : L ≤ L2') : ∀ ds : List PyData, okDs B L ds = true → okDs B2 L2' ds = true
  | [], _ => rfl
  | d :: ds, h => by
    rw [okDs, Bool.and_eq_true] at h ⊢
    exact ⟨okD_up hB hL d h.1, okDs_up hB hL ds h.2⟩
end
end
/-! depth, bulk of lists -/
theorem dep_app : ∀ (a b : List PyData), PyData.depthAll (a ++ b) = max (PyData.depthAll a) (PyData.depthAll b)
  | [], b => by rw [List.nil_append, PyData.depthAll]; omega
  | d :: a, b => by rw [List.cons_append, PyData.depthAll, PyData.depthAll, dep_app a b]; omega
theorem dep_mem : ∀ {ds : List PyData} {d : PyData}, d ∈ ds → d.depth ≤ PyData.depthAll ds
  | e :: ds, d, h => by
    rw [PyData.depthAll]
    rcases List.mem_cons.mp h with q | q
    · subst q; omega
    · have := dep_mem q; omega
theorem dep_le {n : Nat} : ∀ {ds : List PyData}, (∀ d ∈ ds, d.depth ≤ n) → PyData.depthAll ds ≤ n
  | [], _ => Nat.zero_le _
  | d :: ds, h => by
    rw [PyData.depthAll]
    have h1 := h d (List.mem_cons_self ..)
    have h2 := dep_le (n := n) (ds := ds) fun x hx => h x (List.mem_cons_of_mem _ hx)
    omega
theorem blk_app : ∀ (a b : List PyData), PyData.bulkAll (a ++ b) = PyData.bulkAll a + PyData.bulkAll b
  | [], b => by rw [List.nil_append, PyData.bulkAll]; omega
  | d :: a, b => by rw [List.cons_append, PyData.bulkAll, PyData.bulkAll, blk_app a b]; omega
theorem blk_rev : ∀ a : List PyData, PyData.bulkAll a.reverse = PyData.bulkAll a
  | [] => rfl
  | d :: a => by
    rw [List.reverse_cons, blk_app, blk_rev a, PyData.bulkAll, PyData.bulkAll, PyData.bulkAll]
    omega
theorem blk_take (n : Nat) (a : List PyData) : PyData.bulkAll (a.take n) ≤ PyData.bulkAll a := by
  have h := blk_app (a.take n) (a.drop n)
  rw [List.take_append_drop] at h
  omega
theorem blk_drop (n : Nat) (a : List PyData) : PyData.bulkAll (a.drop n) ≤ PyData.bulkAll a := by
  have h := blk_app (a.take n) (a.drop n)
  rw [List.take_append_drop] at h
  omega
theorem blk_len : ∀ a : List PyData, a.length ≤ PyData.bulkAll a
  | [] => Nat.zero_le _
  | d :: a => by
    have := blk_len a
    rw [List.length_cons, PyData.bulkAll]
    omega
theorem blk_mem : ∀ {ds : List PyData} {d : PyData}, d ∈ ds → d.bulk + 1 ≤ PyData.bulkAll ds
  | e :: ds, d, h => by
    rw [PyData.bulkAll]
    rcases List.mem_cons.mp h with q | q
    · subst q; omega
    · have := blk_mem q; omega
/-- data within bounds -/
structure Gd (B L D W : Nat) (d : PyData) : Prop where
  ok : okD B L d = true
  dp : d.depth ≤ D
  bk : d.bulk ≤ W
theorem Gd.up {B L D W B2 L2' D2 W2 : Nat} {d : PyData} (h : Gd B L D W d) (a : B ≤ B2) (b : L ≤ L2') (c : D ≤ D2) (e : W ≤ W2) : Gd B2 L2' D2 W2 d := ⟨okD_up a b d h.ok, Nat.le_trans h.dp c, Nat.le_trans h.bk e⟩
theorem Gd.shaped {B L D W : Nat} {d : PyData} (h : Gd B L D W d) (hD : D ≤ 64) : SeqAt.shaped d = true := by
  unfold SeqAt.shaped
  rw [okD_lay d h.ok, decide_eq_true (Nat.le_trans h.dp hD)]
  rfl
mutual
theorem okD_log {B L : Nat} (hB : 0 < B) (hB2 : B ≤ 200) : ∀ d : PyData, okD B L d = true → logI 200 d = true
  | .none, _ => rfl
  | .bool _, _ => rfl
  | .str _, _ => rfl
  | .int i, h => by
    rw [okD] at h
    have h1 := log2_lt' hB (of_decide_eq_true h)
    rw [logI]
    exact decide_eq_true (by omega)
  | .list ds, h => by
    rw [okD] at h
    rw [logI]
    exact okDs_log hB hB2 ds h
  | .tuple ds, h => by
    rw [okD] at h
    rw [logI]
    exact okDs_log hB hB2 ds h
  | .dict _, h => by rw [okD] at h; cases h
theorem okDs_log {B L : Nat} (hB : 0 < B) (hB2 : B ≤ 200) : ∀ ds : List PyData, okDs B L ds = true → logIs 200 ds = true
  | [], _ => rfl
  | d :: ds, h => by
    rw [okDs, Bool.and_eq_true] at h
    rw [logIs, okD_log hB hB2 d h.1, okDs_log hB hB2 ds h.2]
    rfl
end
/-- a list's text -/
theorem rep_ok {B L D : Nat} {ds : List PyData} (hB : 0 < B) (hB2 : B ≤ 1920) (hD : D ≤ 59) (h : okDs B L ds = true) (hd : PyData.depthAll ds ≤ D) (hw : PyData.bulkAll ds ≤ 8000) : gRepr [.list ds] = some (.fz (.str (shownD (.list ds)))) := by
  have c : okRep (.list ds) = true := by
    unfold okRep
    rw [PyData.showable, okDs_show hB hB2 ds h, PyData.canLay0, okDs_lay ds h, PyData.depth, PyData.bulk, decide_eq_true (show PyData.depthAll ds + 1 ≤ 60 by omega), decide_eq_true hw, Bool.true_or]
    rfl
  show (if okRep (.list ds) then some (S.fz (.str (shownD (.list ds)))) else none) = _
  rw [if_pos c]
/-- the same, small whole numbers, much of it -/
theorem rep_ok2 {B L D : Nat} {ds : List PyData} (hB : 0 < B) (hB2 : B ≤ 200) (hD : D ≤ 59) (h : okDs B L ds = true) (hd : PyData.depthAll ds ≤ D) (hw : PyData.bulkAll ds ≤ 60000) : gRepr [.list ds] = some (.fz (.str (shownD (.list ds)))) := by
  have c : okRep (.list ds) = true := by
    unfold okRep
    rw [PyData.showable, okDs_show hB (by omega) ds h, PyData.canLay0, okDs_lay ds h, PyData.depth, PyData.bulk, decide_eq_true (show PyData.depthAll ds + 1 ≤ 60 by omega), logI, okDs_log hB hB2 ds h, decide_eq_true hw, Bool.and_self, Bool.or_true]
    rfl
  show (if okRep (.list ds) then some (S.fz (.str (shownD (.list ds)))) else none) = _
  rw [if_pos c]
end DL

/-! D17: parts of rows and texts stay within bounds. -/
namespace DL
open L2 PySem PySem.Spec PyProof.Rows

theorem fm_map {α β : Type} {f : α → Option β} {g : α → β} : ∀ {l : List α}, (∀ x ∈ l, f x = some (g x)) → l.filterMap f = l.map g
  | [], _ => rfl
  | x :: l, h => by
    rw [List.filterMap_cons, h x (List.mem_cons_self ..), List.map_cons, fm_map fun y hy => h y (List.mem_cons_of_mem _ hy)]
theorem pick_rev {α : Type} (xs : List α) : pickT xs none none (-1) = xs.reverse := by
  have e1 : (aplT xs.length none none (-1)).1 = (xs.length : Int) - 1 := rfl
  have e2 : (aplT xs.length none none (-1)).2 = xs.length := by
    show Builtin.Slice.slicePlaces ((xs.length : Int) - 1) (-1) (-1) = xs.length
    unfold Builtin.Slice.slicePlaces
    have h1 : ¬ ((-1 : Int) > 0) := by omega
    simp only [h1, if_false, Int.neg_neg, Int.ediv_one]
    split <;> omega
  unfold pickT placesT
  rw [e1, e2, List.filterMap_map]
  cases xs with
  | nil => rfl
  | cons x0 xr =>
    generalize hq : x0 :: xr = xs at *
    have hn : 0 < xs.length := by rw [← hq]; simp
    rw [fm_map (g := fun m => xs[xs.length - 1 - m]'(by omega))]
    · apply List.ext_getElem
      · rw [List.length_map, List.length_range, List.length_reverse]
      · intro i h1 h2
        rw [List.getElem_map, List.getElem_reverse]
        congr 1
        rw [List.getElem_range]
    · intro m hm
      have hm := List.mem_range.mp hm
      have e : (((xs.length : Int) - 1) + (m : Int) * (-1)).toNat = xs.length - 1 - m := by omega
      show xs[(((xs.length : Int) - 1) + (m : Int) * (-1)).toNat]? = _
      rw [e, List.getElem?_eq_getElem]
section
variable {B L : Nat} {ds : List PyData}
theorem cut_mem {α : Type} {xs : List α} {lo hi : Option Int} {x : α} (h : x ∈ cutD xs lo hi) : x ∈ xs := List.mem_of_mem_drop (List.mem_of_mem_take h)
theorem cut_len {α : Type} (xs : List α) (lo hi : Option Int) : (cutD xs lo hi).length ≤ xs.length := by
  unfold cutD
  rw [List.length_take, List.length_drop]
  omega
theorem cut_blk (lo hi : Option Int) : PyData.bulkAll (cutD ds lo hi) ≤ PyData.bulkAll ds := Nat.le_trans (blk_take _ _) (blk_drop _ _)
theorem cut_dep (lo hi : Option Int) : PyData.depthAll (cutD ds lo hi) ≤ PyData.depthAll ds := dep_le fun d hd => dep_mem (cut_mem hd)
theorem cut_ok (lo hi : Option Int) (h : okDs B L ds = true) : okDs B L (cutD ds lo hi) = true := okDs_sub h fun d hd => cut_mem hd
end
/-- within bounds: what may be said of a change of d -/
structure Bt (B L : Nat) (d e : PyData) : Prop where
  ok : okD B L e = true
  dp : e.depth ≤ d.depth + 2
  bk : e.bulk ≤ 2 * d.bulk + 240
section
variable {B L : Nat} {ds : List PyData} {z : Str}
theorem bw_list (h : okDs B L ds = true) : Bt B L (.tuple ds) (.list ds) := ⟨by rw [okD]; exact h, by rw [PyData.depth, PyData.depth]; omega, by rw [PyData.bulk, PyData.bulk]; omega⟩
theorem bw_cut (lo hi : Option Int) (h : okDs B L ds = true) : Bt B L (.tuple ds) (.tuple (cutD ds lo hi)) := ⟨by rw [okD]; exact cut_ok lo hi h, by rw [PyData.depth, PyData.depth]; have := cut_dep (ds := ds) lo hi; omega, by rw [PyData.bulk, PyData.bulk]; have := cut_blk (ds := ds) lo hi; omega⟩
theorem bw_app (lo hi : Option Int) (h : okDs B L ds = true) : Bt B L (.tuple ds) (.tuple (ds ++ cutD ds lo hi)) := ⟨by rw [okD]; exact okDs_app h (cut_ok lo hi h), by rw [PyData.depth, PyData.depth, dep_app]; have := cut_dep (ds := ds) lo hi; omega, by rw [PyData.bulk, PyData.bulk, blk_app]; have := cut_blk (ds := ds) lo hi; omega⟩
theorem bw_rev (h : okDs B L ds = true) : Bt B L (.tuple ds) (.tuple ds.reverse) := ⟨by rw [okD]; exact okDs_sub h fun d hd => List.mem_reverse.mp hd, by rw [PyData.depth, PyData.depth]; have := dep_le (n := PyData.depthAll ds) (ds := ds.reverse) fun d hd => dep_mem (List.mem_reverse.mp hd); omega, by rw [PyData.bulk, PyData.bulk, blk_rev]; omega⟩
theorem bw_in (h : okDs B L ds = true) : Bt B L (.tuple ds) (.tuple [.tuple ds]) := ⟨by rw [okD, okDs, okD, h]; rfl, by simp only [PyData.depth, PyData.depthAll]; omega, by simp only [PyData.bulk, PyData.bulkAll]; omega⟩
theorem bw_non (h : okDs B L ds = true) : Bt B L (.tuple ds) (.tuple (ds ++ [.none])) := ⟨by rw [okD]; exact okDs_app h rfl, by rw [PyData.depth, PyData.depth, dep_app]; have : PyData.depthAll [.none] = 0 := rfl; omega, by rw [PyData.bulk, PyData.bulk, blk_app]; have : PyData.bulkAll [.none] = 1 := rfl; omega⟩
theorem bw_at {x y : PyData} {a b : List PyData} (h : okDs B L (a ++ x :: b) = true) (hx : Bt B L x y) : Bt B L (.tuple (a ++ x :: b)) (.tuple (a ++ [y] ++ b)) := by
  have ha : okDs B L a = true := okDs_sub h fun d hd => List.mem_append_left _ hd
  have hb : okDs B L b = true := okDs_sub h fun d hd => List.mem_append_right _ (List.mem_cons_of_mem _ hd)
  refine ⟨?_, ?_, ?_⟩
  · rw [okD]
    exact okDs_app (okDs_app ha (by rw [okDs, hx.ok]; rfl)) hb
  · have := hx.dp
    simp only [PyData.depth, PyData.depthAll, dep_app]
    omega
  · have := hx.bk
    simp only [PyData.bulk, PyData.bulkAll, blk_app]
    omega
theorem Bt.up {B2 L2' : Nat} {d e : PyData} (h : Bt B L d e) (a : B ≤ B2) (b : L ≤ L2') : Bt B2 L2' d e := ⟨okD_up a b e h.ok, h.dp, h.bk⟩
/-- texts -/
theorem str_ok : okD B L (.str z) = true ↔ (∀ c ∈ z.cps.toList, c < 128) ∧ z.length ≤ L := by
  rw [okD, Bool.and_eq_true, List.all_eq_true]
  constructor
  · intro h
    exact ⟨fun c hc => of_decide_eq_true (h.1 c hc), of_decide_eq_true h.2⟩
  · intro h
    exact ⟨fun c hc => decide_eq_true (h.1 c hc), decide_eq_true h.2⟩
theorem str_app {x y : Str} : (x ++ y).cps.toList = x.cps.toList ++ y.cps.toList := by
  show (x.cps ++ y.cps).toList = _
  rw [Array.toList_append]
theorem str_apl {x y : Str} : (x ++ y).length = x.length + y.length := by
  show (x.cps ++ y.cps).size = _
  rw [Array.size_append]
  rfl
theorem bw_sapp {y : Str} (h : okD B L (.str z) = true) (hy : ∀ c ∈ y.cps.toList, c < 128) (hl : y.length ≤ 8) : Bt B (L + 8) (.str z) (.str (z ++ y)) := by
  obtain ⟨h1, h2⟩ := str_ok.mp h
  refine ⟨str_ok.mpr ⟨fun c hc => ?_, by rw [str_apl]; omega⟩, by simp only [PyData.depth]; omega, ?_⟩
  · rw [str_app] at hc
    exact (List.mem_append.mp hc).elim (h1 c) (hy c)
  · show (z ++ y).length ≤ 2 * z.length + 240
    rw [str_apl]
    omega
theorem bw_scut (lo hi : Option Int) (h : okD B L (.str z) = true) : Bt B L (.str z) (.str (cutS z lo hi)) := by
  obtain ⟨h1, h2⟩ := str_ok.mp h
  have len : (cutS z lo hi).length ≤ z.length := by
    show ((z.cps.toList.drop _).take _).toArray.size ≤ z.cps.size
    rw [List.size_toArray, List.length_take, List.length_drop, Array.length_toList]
    omega
  refine ⟨str_ok.mpr ⟨fun c hc => h1 c ?_, by omega⟩, by simp only [PyData.depth]; omega, ?_⟩
  · exact List.mem_of_mem_drop (List.mem_of_mem_take hc)
  · show (cutS z lo hi).length ≤ 2 * z.length + 240
    omega
theorem up1_lt {c : Nat} (h : c < 128) : PyProof.Rows.up1 c < 128 := by
  unfold PyProof.Rows.up1
  split <;> omega
theorem bw_upp (h : okD B L (.str z) = true) : Bt B L (.str z) (.str (Txt.upper z)) := by
  obtain ⟨h1, h2⟩ := str_ok.mp h
  have e : Txt.upper z = ⟨z.cps.map PyProof.Rows.up1⟩ := PyProof.Rows.upper_ascii h1
  have len : (Txt.upper z).length = z.length := by
    rw [e]
    show (z.cps.map PyProof.Rows.up1).size = z.cps.size
    rw [Array.size_map]
  refine ⟨str_ok.mpr ⟨fun c hc => ?_, by omega⟩, by simp only [PyData.depth]; omega, ?_⟩
  · rw [e] at hc
    have hc : c ∈ (z.cps.map PyProof.Rows.up1).toList := hc
    rw [Array.toList_map] at hc
    obtain ⟨x, hx, ex⟩ := List.mem_map.mp hc
    subst ex
    exact up1_lt (h1 x hx)
  · show (Txt.upper z).length ≤ 2 * z.length + 240
    omega
theorem bw_sin (h : okD B L (.str z) = true) : Bt B L (.str z) (.list [.str z]) := ⟨by rw [okD, okDs, h]; rfl, by simp only [PyData.depth, PyData.depthAll]; omega, by simp only [PyData.bulk, PyData.bulkAll]; omega⟩
theorem int_plain (i : Int) : ∀ c ∈ ((toString i : String) : Str).cps.toList, c < 128 := fun c hc => by
  rcases Nat.lt_or_ge c 128 with q | q
  · exact q
  · exact absurd hc (PyProof.Rows.int_text_free' c ⟨by omega, by omega⟩ i)
theorem bw_str {i : Int} {d : PyData} (hB : 0 < B) (h : i.natAbs < 2 ^ B) (hL : B + 1 ≤ L) (hw : B + 1 ≤ 240) : Bt B L d (.str ((toString i : String) : Str)) := by
  have l : (((toString i : String) : Str)).length ≤ B + 1 := Nat.le_trans (Nat.le_of_eq (PySem.ofString_length _)) (int_text_length_le hB (log2_lt' hB h))
  exact ⟨str_ok.mpr ⟨int_plain i, by omega⟩, by simp only [PyData.depth]; omega, by show (((toString i : String) : Str)).length ≤ _; omega⟩
theorem bw_int {i : Int} {d : PyData} (h : i.natAbs < 2 ^ B) : Bt B L d (.int i) := ⟨by rw [okD]; exact decide_eq_true h, by simp only [PyData.depth]; omega, by simp only [PyData.bulk]; omega⟩
theorem bw_bool {b : Bool} {d : PyData} : Bt B L d (.bool b) := ⟨rfl, by simp only [PyData.depth]; omega, by simp only [PyData.bulk]; omega⟩
theorem bw_iin {d : PyData} (h : okD B L d = true) (h0 : d.depth = 0) (h1 : d.bulk = 0) : Bt B L d (.list [d]) := ⟨by rw [okD, okDs, h]; rfl, by simp only [PyData.depth, PyData.depthAll]; omega, by simp only [PyData.bulk, PyData.bulkAll]; omega⟩
end
end DL

/-! D18: zip of tuples, d.get(k, x), sorted of an empty dict, chains of three comparisons, tuples at the top of the module, a def's ** alone. -/
namespace DL
open L2 PySem PySem.Spec PyProof.Rows

/-! ### zip of two tuples -/
def zipD (xs ys : List PyData) : List PyData := List.zipWith (fun x y => PyData.tuple [x, y]) xs ys
theorem itz_ok {K : PySem.W.Frag} {G : Hp} {a b : Addr} {xs ys : List V} {ds es : List PyData} (h : SqT K G a xs) (hd : DqAll K G xs ds) (h2 : SqT K G b ys) (hd2 : DqAll K G ys es) : ItP K G (RZ.ItzT K a b) (zipD ds es) := by
  have l1 := hd.len
  have l2 := hd2.len
  have ln : (zipD ds es).length = min ds.length es.length := by unfold zipD; rw [List.length_zipWith]
  refine ⟨fun H s => ⟨xs, ys, sqT_up s h, sqT_up s h2, by rw [ln]; omega⟩, fun i H s hi => ⟨xs, ys, xs[i]'(by omega), ys[i]'(by omega), sqT_up s h, sqT_up s h2, List.getElem?_eq_getElem _, List.getElem?_eq_getElem _⟩, fun i d H x H' G1 s1 s2 e y => ?_⟩
  obtain ⟨T, x1, y1, rfl, hn, rfl, q1, q2⟩ := y
  have hi : i < (zipD ds es).length := (List.getElem?_eq_some_iff.mp e).1
  rw [ln] at hi
  unfold zipD at e
  rw [List.getElem?_zipWith, List.getElem?_eq_getElem (show i < ds.length by omega), List.getElem?_eq_getElem (show i < es.length by omega)] at e
  cases e
  obtain ⟨v, ev, r⟩ := hd.get (List.getElem?_eq_getElem (show i < ds.length by omega))
  obtain ⟨u, eu, r2⟩ := hd2.get (List.getElem?_eq_getElem (show i < es.length by omega))
  have z1 := q1 xs (sqT_up (s1.trans s2) h)
  have z2 := q2 ys (sqT_up (s1.trans s2) h2)
  rw [ev] at z1
  rw [eu] at z2
  cases z1
  cases z2
  exact ⟨_, .tup s2 hn (.cons (dq_up s1 _ r) (.cons (dq_up s1 _ r2) .nil))⟩
def zipI (f : AF) : IF := fun ρ => (f ρ).bind fun p => (peekAll p.2 p.1).bind fun ds => match ds with
  | [.tuple xs, .tuple ys] => some (zipD xs ys, p.2)
  | _ => none
section
variable {X : Cx} {pos tpos : Pos}
theorem di_zip {e e2 : Expr} {f : AF} {p : Pos} {elts : List Expr} {kk : Nat} (hg : Gl X "zip") (hm : X.mg "zip" = none) (ha : DA X [e, e2] f)
    (hs : starEach [e, e2] X.env = (false, eval e X.env) :: starEach [e2] X.env := by rfl) (hpl : (backTo pos (starEach [e2] X.env)).any (·.1) = false := by rfl) :
    DI X (.Tuple elts kk tpos) (.Call (.Name "zip" p) [e, e2] [] pos) (zipI f) := by
  obtain ⟨t, pa, s⟩ := ha
  refine ⟨_, RZ.pi_zipA hg hm pa hs hpl, fun G ρ σ H ds ρ' Q R e q => ?_⟩
  obtain ⟨⟨ss, ρ1⟩, e1, e⟩ := of_bind e
  obtain ⟨as, e2, e⟩ := of_bind e
  refine s G ρ σ H ss ρ1 _ R e1 fun vs G1 H1 R1 p1 a1 => ?_
  have pk := peekAll_ok R1 a1 e2
  match as, pk, e with
  | [.tuple xs, .tuple ys], .cons h (.cons h2 .nil), e =>
    cases e
    obtain ⟨a, us, ea, ha, da, ga⟩ := h.tup R1.sub
    obtain ⟨b, ws, eb, hb, db, gb⟩ := h2.tup R1.sub
    subst ea eb
    exact ⟨a, b, us, ws, rfl, .inr ⟨ha, hb, q _ G1 H1 R1 p1 (itz_ok ga da gb db)⟩⟩

/-! ### d.get(k, x) -/
def fzS : S → Option PyData
  | .fz d => some d
  | _ => none
theorem fzS_ok {s : S} {d : PyData} (h : fzS s = some d) : s = .fz d := by
  cases s <;> cases h
  rfl
def dget2F (f g h : EF) : EF := fun ρ => (f ρ).bind fun p => (alS p.1).bind fun i => (cellK p.2[i]?).bind fun _ => (g p.2).bind fun q => (S.peek q.2 q.1).bind fun d => (keyD d).bind fun k => (h q.2).bind fun r => (fzS r.1).bind fun z => (cellK r.2[i]?).map fun kvs => (.fz ((valD kvs k).getD z), r.2)
theorem kd_valN {K : PySem.W.Frag} {G : Hp} {k : Key} : ∀ {ys : List (Key × V)} {kvs : List (Key × PyData)}, KD K G ys kvs → valD kvs k = none → valV ys k = none
  | _, _, .nil, _ => rfl
  | (k1, v1) :: ys, (k2, d2) :: kvs, .cons ⟨h1, h2⟩ t, e => by
    have h1 : k1 = k2 := h1
    subst h1
    unfold valD at e
    unfold valV
    rw [List.find?_cons] at e ⊢
    by_cases c : k1 = k
    · simp only [c, decide_true] at e
      cases e
    · simp only [c, decide_false] at e ⊢
      exact kd_valN t e
theorem de_dget2 {o e1 e2 : Expr} {apos cpos : Pos} {f g h : EF} (hu : X.A.units + 1 < cLine) (ho : DE X o f) (hi : DE X e1 g) (hx : DE X e2 h) (m : M2 X o "get" apos e1 e2 cpos) : DE X (.Call (.Attribute o "get" apos) [e1, e2] [] cpos) (dget2F f g h) := by
  obtain ⟨tf, pf, sf⟩ := ho
  obtain ⟨tg, pg, sg⟩ := hi
  obtain ⟨th, ph, sh⟩ := hx
  refine ⟨_, pe_dget2 hu pf pg ph m, fun G ρ σ H s ρ' Q R e q => ?_⟩
  obtain ⟨⟨s1, ρ1⟩, e1, e⟩ := of_bind e
  obtain ⟨i, e2, e⟩ := of_bind e
  obtain ⟨kvs0, e20, e⟩ := of_bind e
  obtain ⟨⟨s3, ρ3⟩, e3, e⟩ := of_bind e
  obtain ⟨d, e4, e⟩ := of_bind e
  obtain ⟨k, e5, e⟩ := of_bind e
  obtain ⟨⟨s6, ρ6⟩, e6, e⟩ := of_bind e
  obtain ⟨z, e7, e⟩ := of_bind e
  obtain ⟨kvs, e8, e⟩ := of_map e
  cases e
  have e20 := cellK_ok e20
  have e8 := cellK_ok e8
  refine sf G ρ σ H _ ρ1 _ R e1 fun v G1 H1 E1 => ?_
  have r1 := E1.res
  rw [show s1 = S.al i from alS_ok e2] at r1
  have ev : σ[i]? = some (some v) := r1
  obtain ⟨v0, ev0, a0, ys0, ea0, ga0, ha0, da0⟩ := E1.rl.slot i _ e20
  rw [ev] at ev0
  cases ev0
  subst ea0
  refine ⟨a0, rfl, .inl ⟨ys0, .inl ha0⟩, ?_⟩
  refine sg G1 ρ1 σ H1 s3 ρ3 _ E1.rl e3 fun y G2 H2 E2 => ?_
  have ky := pk_key (peek_ok E2.rl E2.res e4) e5
  subst ky
  refine sh G2 ρ3 σ H2 s6 ρ6 _ E2.rl e6 fun u G3 H3 E3 => ?_
  have r3 := E3.res
  rw [show s6 = S.fz z from fzS_ok e7] at r3
  have r3 : Dq X.K G3 u z := r3
  obtain ⟨v', ev', a, ys, ea, ga, ha, da⟩ := E3.rl.slot i _ e8
  rw [ev] at ev'
  cases ev'
  cases ea
  refine ⟨_, DGet.k ha, ?_⟩
  have p3 := (E1.st.trans E2.st).trans E3.st
  cases c : valD kvs k with
  | some w =>
    obtain ⟨w', ew, rw'⟩ := kd_val da c
    rw [ew]
    rw [c] at q
    exact q w' G3 H3 ⟨E3.rl, p3, rw'⟩
  | none =>
    rw [kd_valN da c]
    rw [c] at q
    exact q u G3 H3 ⟨E3.rl, p3, r3⟩

/-! ### sorted(d), d empty -/
def srt0F (f : AF) : EF := fun ρ => (f ρ).bind fun p => match p.1 with
  | [.al i] => (cellK p.2[i]?).bind fun kvs => if kvs.isEmpty then some (.ol [], p.2) else none
  | _ => none
theorem de_srt0 {e : Expr} {f : AF} {p : Pos} (hg : Gl X "sorted") (hm : X.mg "sorted" = none) (ha : DA X [e] f) (hcalm : X.calm = true := by rfl)
    (hs : starEach [e] X.env = (false, eval e X.env) :: starEach [] X.env := by rfl) (hpl : (backTo pos (starEach [] X.env)).any (·.1) = false := by rfl) : DE X (.Call (.Name "sorted" p) [e] [] pos) (srt0F f) := by
  obtain ⟨t, pa, s⟩ := ha
  refine ⟨_, pe_callB (call_sortedD hcalm) hg hm boot_sorted pa (by decide) (by decide) hs hpl, fun G ρ σ H s1 ρ' Q R e q => ?_⟩
  obtain ⟨⟨ss, ρ1⟩, e1, e⟩ := of_bind e
  refine s G ρ σ H ss ρ1 _ R e1 fun vs G1 H1 R1 p1 a1 => ?_
  match ss, a1, e with
  | [.al i], .cons h .nil, e =>
    obtain ⟨kvs, e2, e⟩ := of_bind e
    by_cases c : kvs.isEmpty = true
    · have c' : kvs = [] := List.isEmpty_iff.mp c
      subst c'
      cases e
      obtain ⟨v, ev, a, ys, ea, ga, ha, da⟩ := R1.slot i _ (cellK_ok e2)
      have h' : σ[i]? = some (some _) := h
      rw [ev] at h'
      cases h'
      subst ea
      cases da
      refine ⟨a, [], [], rfl, .inl ha, rfl, by decide, fun zs p pz _ hn => ?_⟩
      rw [List.Perm.eq_nil pz]
      exact q _ _ _ (ev_new R1 p1 (.lst R1.sub hn .nil))
    · exact absurd (show (if kvs.isEmpty = true then some (S.ol [], ρ1) else none) = some (s1, ρ') from e) (by rw [if_neg c]; exact fun z => nomatch z)

/-! ### a op b op c op d -/
def tChain3 (r r' r'' : R2) (ta tb tc td : TE) : TE := fun σ H Q => ta σ H fun x H1 => tb σ H1 fun y H2 => r x y H2 fun z H3 => ∃ k, z = .bl k ∧
  (if k = true then tc σ H3 fun w' H4 => r' y w' H4 fun z' H5 => ∃ k', z' = .bl k' ∧ (if k' = true then td σ H5 fun u H6 => r'' w' u H6 Q else Q (.bl false) H5) else Q (.bl false) H3)
theorem pe_chain3 {op op' op'' : CmpOp} {a b c d : Expr} {ta tb tc td : TE} {r r' r'' : R2} (ho : OpR X (compareOp op) r) (ho' : OpR X (compareOp op') r') (ho'' : OpR X (compareOp op'') r'') (ha : PE X a ta) (hb : PE X b tb) (hc : PE X c tc) (hd : PE X d td)
    (hm : lastMarks [op, op', op''] [b, c, d] = false := by with_unfolding_all rfl) : PE X (.Compare a [op, op', op''] [b, c, d] pos) (tChain3 r r' r'' ta tb tc td) := by
  refine ⟨fun pins s σ H Q I h => ?_⟩
  refine Compare_chain (thn (ha.run pins s σ H _ I h) fun v s1 ⟨x, H1, I1, r1, q1⟩ => chain_link (thn (hb.run pins s1 σ H1 _ I1 q1) fun u s2 ⟨y, H2, I2, r2, q2⟩ =>
    thn (ho pins s2 σ H2 x y v u _ I2 r1 r2 q2) fun d s3 ⟨z, H3, I3, r3, k, e, q3⟩ => ?_)) hm
  subst e
  cases r3
  refine wpAny_truthy_bool ?_
  cases k with
  | false => exact ite_ff ⟨.bl false, H3, I3, rfl, q3⟩
  | true =>
    refine ite_tt (chain_link (thn (hc.run pins s3 σ H3 _ I3 q3) fun w' s4 ⟨z', H4, I4, r4, q4⟩ => thn (ho' pins s4 σ H4 y z' u w' _ I4 r2 r4 q4) fun d' s5 ⟨z5, H5, I5, r5, k', e', q5⟩ => ?_))
    subst e'
    cases r5
    refine wpAny_truthy_bool ?_
    cases k' with
    | false => exact ite_ff ⟨.bl false, H5, I5, rfl, q5⟩
    | true => exact ite_tt (chain_last (thn (hd.run pins s5 σ H5 _ I5 q5) fun w6 s6 ⟨z6, H6, I6, r6, q6⟩ => ho'' pins s6 σ H6 z' z6 w' w6 Q I6 r4 r6 q6))
def ch3F (g g' g'' : PyData → PyData → Option S) (f1 f2 f3 f4 : EF) : EF := fun ρ =>
  (f1 ρ).bind fun p => (f2 p.2).bind fun q => (p.1.peek q.2).bind fun d => (q.1.peek q.2).bind fun e => (g d e).bind fun s => (boolS s).bind fun b =>
    if b then (f3 q.2).bind fun r => (q.1.peek r.2).bind fun d => (r.1.peek r.2).bind fun e => (g' d e).bind fun s => (boolS s).bind fun b =>
      if b then (f4 r.2).bind fun t => (r.1.peek t.2).bind fun d => (t.1.peek t.2).bind fun e => (g'' d e).map fun s => (s, t.2) else some (.fz (.bool false), r.2)
    else some (.fz (.bool false), q.2)
theorem de_chain3 {op op' op'' : CmpOp} {a b c d : Expr} {g g' g'' : PyData → PyData → Option S} {f1 f2 f3 f4 : EF} (ho : DOp X (compareOp op) g) (ho' : DOp X (compareOp op') g') (ho'' : DOp X (compareOp op'') g'') (ha : DE X a f1) (hb : DE X b f2) (hc : DE X c f3) (hd : DE X d f4)
    (hm : lastMarks [op, op', op''] [b, c, d] = false := by with_unfolding_all rfl) : DE X (.Compare a [op, op', op''] [b, c, d] pos) (ch3F g g' g'' f1 f2 f3 f4) := by
  obtain ⟨r, o1, hs⟩ := ho
  obtain ⟨r', o2, hs'⟩ := ho'
  obtain ⟨r'', o3, hs''⟩ := ho''
  obtain ⟨ta, pa, sa⟩ := ha
  obtain ⟨tb, pb, sb⟩ := hb
  obtain ⟨tc, pc, sc⟩ := hc
  obtain ⟨td, pd, sd⟩ := hd
  refine ⟨_, pe_chain3 o1 o2 o3 pa pb pc pd hm, fun G ρ σ H s ρ' Q R e q => ?_⟩
  obtain ⟨⟨s1, ρ1⟩, e1, e⟩ := of_bind e
  obtain ⟨⟨s2, ρ2⟩, e2, e⟩ := of_bind e
  obtain ⟨d1, e3, e⟩ := of_bind e
  obtain ⟨d2, e4, e⟩ := of_bind e
  obtain ⟨s', e5, e⟩ := of_bind e
  obtain ⟨c, e6, e⟩ := of_bind e
  refine sa G ρ σ H s1 ρ1 _ R e1 fun v G1 H1 E1 => ?_
  refine sb G1 ρ1 σ H1 s2 ρ2 _ E1.rl e2 fun u G2 H2 E2 => ?_
  refine hs G2 H2 v u d1 d2 s' _ E2.rl.sub (peek_ok E2.rl (E1.res.later E2.st) e3) (peek_ok E2.rl E2.res e4) e5 fun w G3 H3 N => ?_
  have E3 := ev_new E2.rl (E1.st.trans E2.st) N
  have p3 : Stp G2 ρ2 σ H2 G3 ρ2 σ H3 := Stp.new N.sg N.sh N.nw
  refine ⟨c, boolS_ok E3.res e6, ?_⟩
  cases c with
  | false => cases e; exact q _ G3 H3 ⟨E3.rl, E3.st, .bl false⟩
  | true =>
    obtain ⟨⟨s4, ρ4⟩, e7, e⟩ := of_bind e
    obtain ⟨d4, e8, e⟩ := of_bind e
    obtain ⟨d5, e9, e⟩ := of_bind e
    obtain ⟨s5, e10, e⟩ := of_bind e
    obtain ⟨c2, e11, e⟩ := of_bind e
    refine sc G3 ρ2 σ H3 s4 ρ4 _ E3.rl e7 fun z G4 H4 E4 => ?_
    refine hs' G4 H4 u z d4 d5 s5 _ E4.rl.sub (peek_ok E4.rl ((E2.res.later p3).later E4.st) e8) (peek_ok E4.rl E4.res e9) e10 fun w5 G5 H5 N5 => ?_
    have E5 := ev_new E4.rl (E3.st.trans E4.st) N5
    have p5 : Stp G4 ρ4 σ H4 G5 ρ4 σ H5 := Stp.new N5.sg N5.sh N5.nw
    refine ⟨c2, boolS_ok E5.res e11, ?_⟩
    cases c2 with
    | false => cases e; exact q _ G5 H5 ⟨E5.rl, E5.st, .bl false⟩
    | true =>
      obtain ⟨⟨s6, ρ6⟩, f7, e⟩ := of_bind e
      obtain ⟨d6, f8, e⟩ := of_bind e
      obtain ⟨d7, f9, e⟩ := of_bind e
      obtain ⟨s7, f10, e⟩ := of_map e
      cases e
      refine sd G5 ρ4 σ H5 s6 ρ6 _ E5.rl f7 fun y G6 H6 E6 => ?_
      exact hs'' G6 H6 z y d6 d7 s _ E6.rl.sub (peek_ok E6.rl ((E4.res.later p5).later E6.st) f8) (peek_ok E6.rl E6.res f9) f10 fun w G7 H7 N7 => q w G7 H7 (ev_new E6.rl (E5.st.trans E6.st) N7)
theorem de_gtup {x : Str} {ds : List PyData} (hg : Gl X x) (hm : ∃ a, X.mg x = some (.ref a) ∧ ∀ H, Dq X.K H (.ref a) (.tuple ds)) (hd : (x == ("__debug__" : Str)) = false := by decide) : DE X (.Name x pos) (cF (.tuple ds)) := by
  obtain ⟨a, hm, h⟩ := hm
  exact de_of_c (pe_glob (v := .ref a) hg hm rfl hd) fun G => h G
end
/-! ### tuples of the module's top -/
mutual
def rdV (K : PySem.W.Frag) : PyData → Value → Bool
  | .none, .none => true
  | .bool b, .bool c => decide (b = c)
  | .int i, .int j _ => decide (i = j)
  | .str x, .str y _ => decide (x = y)
  | .tuple ds, .ref a => match K.lookup a with
    | some o => (match o.data with
      | .seq its _ => decide (o.cls = .type "tuple") && (decide (its.size ≤ sizeLine) && rdVs K ds its.toList)
      | _ => false)
    | none => false
  | _, _ => false
def rdVs (K : PySem.W.Frag) : List PyData → List Value → Bool
  | [], [] => true
  | d :: ds, v :: vs => rdV K d v && rdVs K ds vs
  | _, _ => false
end
mutual
theorem rdV_ok {K : PySem.W.Frag} : ∀ (d : PyData) (v : Value), rdV K d v = true → ∃ x : V, RelV x v ∧ ∀ H, Dq K H x d
  | .none, v, h => by
    cases v <;> first | exact ⟨.non, rfl, fun _ => .non⟩ | (simp [rdV] at h)
  | .bool b, v, h => by
    cases v <;> first | (obtain rfl := of_decide_eq_true h; exact ⟨.bl b, rfl, fun _ => .bl b⟩) | (simp [rdV] at h)
  | .int b, v, h => by
    cases v <;> first | (obtain rfl := of_decide_eq_true h; exact ⟨.int b, ⟨_, rfl⟩, fun _ => .int b⟩) | (simp [rdV] at h)
  | .str b, v, h => by
    cases v <;> first | (obtain rfl := of_decide_eq_true h; exact ⟨.str b, ⟨_, rfl⟩, fun _ => .str b⟩) | (simp [rdV] at h)
  | .list _, v, h => by cases v <;> simp [rdV] at h
  | .dict _, v, h => by cases v <;> simp [rdV] at h
  | .tuple ds, v, h => by
    cases v with
    | ref a =>
      rw [rdV] at h
      cases e : K.lookup a with
      | none => rw [e] at h; cases h
      | some o =>
        rw [e] at h
        dsimp only at h
        cases q : o.data with
        | seq its n =>
          rw [q] at h
          dsimp only at h
          rw [Bool.and_eq_true, Bool.and_eq_true] at h
          obtain ⟨xs, r, dq⟩ := rdVs_ok ds its.toList h.2.2
          exact ⟨.ref a, rfl, fun H => .tup (.inr ⟨o, its, n, e, of_decide_eq_true h.1, q, of_decide_eq_true h.2.1, r⟩) (dq H)⟩
        | _ => rw [q] at h; cases h
    | _ => simp [rdV] at h
theorem rdVs_ok {K : PySem.W.Frag} : ∀ (ds : List PyData) (vs : List Value), rdVs K ds vs = true → ∃ xs : List V, Vals xs vs ∧ ∀ H, DqAll K H xs ds
  | [], [], _ => ⟨[], .nil, fun _ => .nil⟩
  | [], v :: vs, h => by simp [rdVs] at h
  | d :: ds, [], h => by simp [rdVs] at h
  | d :: ds, v :: vs, h => by
    rw [rdVs, Bool.and_eq_true] at h
    obtain ⟨x, r, q⟩ := rdV_ok d v h.1
    obtain ⟨xs, rs, qs⟩ := rdVs_ok ds vs h.2
    exact ⟨x :: xs, .cons r rs, fun H => .cons (q H) (qs H)⟩
end
def tabB (K : PySem.W.Frag) (ts : List (Str × List PyData)) : Bool := ts.all fun p => match PySem.W.nsIn K mainGlobals p.1 with
  | some (some (.ref a)) => rdV K (.tuple p.2) (.ref a)
  | _ => false
theorem tab_ok {K : PySem.W.Frag} {h : Heap} {mg : Str → Option Value} {ts : List (Str × List PyData)} (X : K.In h) (G : h.Ns mainGlobals mg) (c : tabB K ts = true) {x : Str} {ds : List PyData} (hm : (x, ds) ∈ ts) : ∃ a, mg x = some (.ref a) ∧ ∀ H, Dq K H (.ref a) (.tuple ds) := by
  have c1 := List.all_eq_true.mp c _ hm
  dsimp only at c1
  cases e : PySem.W.nsIn K mainGlobals x with
  | none => rw [e] at c1; cases c1
  | some o =>
    rw [e] at c1
    cases o with
    | none => cases c1
    | some v =>
      cases v with
      | ref a =>
        obtain ⟨x', r, q⟩ := rdV_ok _ _ c1
        have ex : x' = .ref a := by
          have z := q fun _ => none
          cases x' with
          | ref b => cases (show Value.ref a = Value.ref b from r); rfl
          | _ => cases z
        subst ex
        exact ⟨a, PySem.W.mg_of X G e, q⟩
      | _ => cases c1

/-! ### def f(**d), called without arguments -/
def kwE (g : FF) : FF := fun as => if as.length = 0 then (g [.od []]).bind fun r => (fzS r.1).map fun d => (.fz d, []) else none
section
variable {P : Program} {w : World} {K : PySem.W.Frag} {mg : Str → Option Value} {base : Heap}
theorem post_kw {G H : Hp} {p : Addr} {d : PyData} {os : List S} {Q : VK} (hn : H p = none) (sub : Sub G H) (post : Post K G [] [] H (.fz d) [] Q) : Post K G [.od []] [.ref p] (upd H p (.dK [])) (.fz d) os Q := by
  intro v G' H' R' p' rr
  have one : ∀ a, Own (ags [.od []]) (vls [.ref p]) a → a = p := fun a ⟨i, _, e⟩ => by
    have e := get_vls.mp e
    match i, e with
    | 0, e => cases e; rfl
    | i + 1, e => simp at e
  have nb : ∀ a, (upd H p (.dK [])) a = none → H a = none := fun a n => none_back (Sub.up hn) n
  refine post v G' H' (rl_of R'.sub .nil fun s hs => absurd hs List.not_mem_nil) ⟨p'.sub, fun a o e => ?_, fun a o e _ => ?_, fun a h => absurd h (no_own fun s hs => absurd hs List.not_mem_nil), fun a h => p'.th a ?_⟩ rr
  · rcases p'.nw a o e with z | z | z
    · exact .inl z
    · exact .inr (.inl (nb a z))
    · have := one a z
      subst this
      exact .inr (.inl hn)
  · refine p'.keep a o (Sub.up hn a o e) fun z => ?_
    have := one a z
    subst this
    rw [hn] at e
    cases e
  · cases q : H a with
    | none => exact absurd q h
    | some o => rw [Sub.up hn a o q]; exact fun z => nomatch z
theorem dfn_kwE {k : Nat} {f : Addr} {name qual : Str} {params : Arguments} {body : List Stmt} {scope : Scope} {dV kV doc pm cdv ct oc : Value} {an od : Option Addr} {osl : Array (Option Value)} {N : List Str} {pd : Str} {m : SF}
    (lk : K.lookup f = some ⟨oc, od, .func (PySem.W.fnOf name qual params body scope dV kV doc pm an cdv ct), osl⟩) (hcd : PySem.W.codeIn K cdv qual = true) (sc : FnScope N [pd] scope)
    (hbind : bindArgs (PySem.W.fnOf name qual params body scope dV kV doc pm an cdv ct) ⟨[], []⟩ = ((alloc ({ cls := .type "dict", data := .dict #[] } : Obj) : Sem Addr) >>= fun d => pure [(pd, Value.ref d)])) (kp : PySem.W.keepIn K (.ref f) = true)
    (hb : ∀ (A : Around) (outer : List Env) (s : Shared) (H : Hp), Room k (A.deeper (envOfC qual scope s.heap.objs.size f cdv)) → (A.deeper (envOfC qual scope s.heap.objs.size f cdv)).guards = some [] →
      DB (pmOf [true]) (cxB P w K mg base N qual scope f cdv A outer s H) body m) :
    DFn P w K mg base (k + 1) f [] [] (kwE (fnF 1 N.length [true] m)) := by
  refine ⟨fun A outer s H us ws vs zs as r os G Q hr hgd e0 rv rz lz R hok hg post => ?_, kp⟩
  have ez : ws = [] := List.eq_nil_of_length_eq_zero lz
  subst ez
  cases rz
  rw [List.append_nil] at R post
  by_cases c : as.length = 0
  case neg => rw [kwE, if_neg c] at hg; cases hg
  rw [kwE, if_pos c] at hg
  obtain ⟨⟨r', os'⟩, e2, hg⟩ := of_bind hg
  obtain ⟨d, e3, e4⟩ := of_map hg
  cases e4
  have e3 : r' = S.fz d := fzS_ok e3
  subst e3
  have ea : as = [] := List.eq_nil_of_length_eq_zero c
  subst ea
  have l0 : vs.length = 0 := by have := R.len; rw [List.length_map, List.length_map] at this; exact this.symm
  have ev : vs = [] := List.eq_nil_of_length_eq_zero l0
  subst ev
  cases rv
  have kin : K.In s.heap := e0.mod.kin.keeps fun b o e => (e0.bs b o e).1
  have hn : H s.heap.objs.size = none := e0.hok.fresh (Nat.le_refl _)
  refine codeAny_call_function hr.depth (kin _ _ lk) rfl sc.co sc.gen rfl (PySem.W.codeRec_of kin hcd) ?_
  rw [show bindArgs (PySem.W.fnOf name qual params body scope dV kV doc pm an cdv ct) ⟨[], ([] : List Str).zip []⟩ = _ from hbind]
  refine wpAny_bind (wpAny_alloc (wpAny_pure ?_))
  have N1 := NewR.dic (K := K) R.sub hn (show KD K G [] [] from .nil)
  have Rt : Rl K G (ags [.od []]) (vls [.ref s.heap.objs.size]) (upd H s.heap.objs.size (.dK [])) := by
    refine ⟨N1.sub, fun i s' e => ?_, fun i j a _ _ e1 e2 => ?_, rfl⟩
    · have e := get_ags.mp e
      match i, e with
      | 0, e =>
        cases e
        exact ⟨_, rfl, _, [], rfl, none_back R.sub hn, upd_same, .nil⟩
      | i + 1, e => simp at e
    · have e1 := get_vls.mp e1
      have e2 := get_vls.mp e2
      match i, j, e1, e2 with
      | 0, 0, _, _ => rfl
      | i + 1, _, e1, _ => simp at e1
      | _, j + 1, _, e2 => simp at e2
  refine body_ok (as := [.od []]) (vs := [.ref s.heap.objs.size]) (us := [.ref s.heap.objs.size]) (Q := Q) sc hb hr hgd (StX.env0_laid (u := .dK []) (o := ({ cls := .type "dict", data := .dict #[] } : Obj)) e0 (dk_empty _ (StX.env0_big e0))) (.cons rfl .nil) Rt rfl e2 (post_kw hn R.sub post) fun u s' h => ?_
  obtain ⟨v, H', h1, h2, h3, h4, h5, h6⟩ := h
  exact ⟨v, H', h1, h2, (StX.un_laid hn).trans h3, h4, h5, h6⟩
variable {x qual : Str} {params : Arguments} {body : List Stmt} {scope : Scope} {kws : List (Str × V)} {f : Addr} {fd : FuncData}
theorem fd_kwE {k : Nat} {N : List Str} {pd : Str} {m : SF} (F : FunD K x qual params body scope [] kws f fd) (sc : FnScope N [pd] scope)
    (hbind : ∀ (kV doc pm : Value) (an : Option Addr) (cdv ct : Value), bindArgs (PySem.W.fnOf x qual params body scope .none kV doc pm an cdv ct) ⟨[], []⟩ = ((alloc ({ cls := .type "dict", data := .dict #[] } : Obj) : Sem Addr) >>= fun d => pure [(pd, Value.ref d)]))
    (hb : ∀ (cdv : Value) (A : Around) (outer : List Env) (s : Shared) (H : Hp), Room k (A.deeper (envOfC qual scope s.heap.objs.size f cdv)) → (A.deeper (envOfC qual scope s.heap.objs.size f cdv)).guards = some [] →
      DB (pmOf [true]) (cxB P w K mg base N qual scope f cdv A outer s H) body m) : DFn P w K mg base (k + 1) f [] [] (kwE (fnF 1 N.length [true] m)) := by
  obtain ⟨oc, od, dV, kV, doc, pm, an, cdv, ct, osl, rfl, lk, hcd, hD, _⟩ := F.ex
  rcases hD with ⟨_, rfl⟩ | ⟨e, _⟩
  · exact dfn_kwE lk hcd sc (hbind kV doc pm an cdv ct) F.kp fun A outer s H hr hgd => hb cdv A outer s H hr hgd
  · exact absurd rfl e
end
end DL

/-! D19: a list unpacked; steps of D18's words. -/
namespace DL
open L2 PySem PySem.Spec PyProof.Rows

def gTl (hs : GsF) : GF := fun d ρ => match d with
  | .list ds => hs ds ρ
  | _ => none
section
variable {X : Cx} {pm : Nat → Bool} {pos : Pos}
theorem dg_unl {es : List Expr} {k n : Nat} {hs : GsF} (hc : X.calm = true) (h : DGs pm X es hs) (hl : ∀ ds ρ ρ', hs ds ρ = some ρ' → ds.length = n) (hn : (assignEach es X.env).length = n := by rfl) (hst : (assignEach es X.env).findIdx? (·.1) = none := by rfl) : DG pm X (.Tuple es k pos) (gTl hs) := by
  obtain ⟨g, pg, sg⟩ := h
  refine ⟨_, pg_unl hc pg hn hst, fun v d G ρ σ H ρ' Q R hh e q => ?_⟩
  cases d with
  | list ds =>
    cases hh with
    | lst h1 h2 => exact ⟨_, _, rfl, .of (R.sub _ _ h1), by rw [h2.len]; exact hl ds ρ ρ' e, sg _ _ G ρ σ H ρ' Q R h2 e q⟩
  | _ => cases e
end
theorem e_gtl {hs : GsF} {ds : List PyData} {ρ : PSt} : gTl hs (.list ds) ρ = hs ds ρ := rfl
/-- a chain of three comparisons that holds -/
theorem ch3_ok {g g' g'' : PyData → PyData → Option S} {f1 f2 f3 f4 : EF} {ρ : PSt} {a b c d : PyData} (h1 : f1 ρ = some (.fz a, ρ)) (h2 : f2 ρ = some (.fz b, ρ)) (h3 : f3 ρ = some (.fz c, ρ)) (h4 : f4 ρ = some (.fz d, ρ))
    (k1 : g a b = some (.fz (.bool true))) (k2 : g' b c = some (.fz (.bool true))) (k3 : g'' c d = some (.fz (.bool true))) : ch3F g g' g'' f1 f2 f3 f4 ρ = some (.fz (.bool true), ρ) := by
  unfold ch3F
  simp only [h1, h2, h3, h4, Option.bind_some, S.peek, k1, k2, k3, boolS, if_true, Option.map_some]
end DL

/-! D20: texts: f-strings, partition, removeprefix, join of a reversed list, int(text); in, not in of a tuple; blocks never come to. -/
namespace DL
open L2 PySem PySem.Spec PyProof.Rows

theorem of_iteN {α : Type} {c : Bool} {x : Option α} {y : α} (h : (if c then x else none) = some y) : c = true ∧ x = some y := by
  cases c with
  | true => exact ⟨rfl, h⟩
  | false => cases h
section
variable {X : Cx} {pos : Pos}
/-! ### f-strings -/
abbrev JF := Str → PSt → Option (Str × PSt)
def strS : S → Option Str
  | .fz (.str z) => some z
  | _ => none
theorem strS_ok {K : PySem.W.Frag} {G H H' : Hp} {ρ : PSt} {σ : L2.St} {s : S} {v : V} {z : Str} (h : ResR K G ρ σ H H' s v) (e : strS s = some z) : v = .str z := by
  cases s with
  | fz d =>
    cases d with
    | str i' =>
      cases e
      cases (show Dq K G v (.str z) from h)
      rfl
    | _ => cases e
  | _ => cases e
def fmtF (f : EF) : EF := fun ρ => (f ρ).bind fun p => (strS p.1).bind fun z => if okN z.length then some (.fz (.str z), p.2) else none
theorem de_fmt {e : Expr} {f : EF} (he : DE X e f) : DE X (.FormattedValue e (-1) none pos) (fmtF f) := by
  obtain ⟨t, p, s0⟩ := he
  refine ⟨_, pe_fmt p, fun G ρ σ H s ρ' Q R e q => ?_⟩
  obtain ⟨⟨s1, ρ1⟩, e1, e⟩ := of_bind e
  obtain ⟨z, e2, e⟩ := of_bind e
  obtain ⟨c, e⟩ := of_ite e
  cases e
  refine s0 G ρ σ H s1 ρ1 _ R e1 fun v G1 H1 E1 => .inl ⟨z, strS_ok E1.res e2, Nat.le_trans (of_decide_eq_true c) (by decide), ?_⟩
  exact q _ G1 H1 ⟨E1.rl, E1.st, .str z⟩
def DJ (X : Cx) (es : List Expr) (f : JF) : Prop :=
  ∃ ts, PJ X es ts ∧ ∀ (acc : Str) (G : Hp) (ρ : PSt) (σ : L2.St) (H : Hp) (z : Str) (ρ' : PSt) (Q : Str → Hp → Prop), Rl X.K G ρ σ H → f acc ρ = some (z, ρ') → (∀ G' H', Rl X.K G' ρ' σ H' → Stp G ρ σ H G' ρ' σ H' → Q z H') → tJs ts acc σ H Q
def jNil : JF := fun acc ρ => some (acc, ρ)
def jCons (f : EF) (g : JF) : JF := fun acc ρ => (f ρ).bind fun p => (strS p.1).bind fun y => if okN (acc ++ y).length then g (acc ++ y) p.2 else none
theorem dj_nil : DJ X [] jNil := ⟨[], .nil, fun acc G ρ σ H z ρ' Q R e q => by cases e; exact q G H R Stp.rfl⟩
theorem dj_cons {e : Expr} {es : List Expr} {f : EF} {g : JF} (he : DE X e f) (h : DJ X es g) : DJ X (e :: es) (jCons f g) := by
  obtain ⟨t, p, s0⟩ := he
  obtain ⟨ts, ps, ss⟩ := h
  refine ⟨t :: ts, .cons p ps, fun acc G ρ σ H z ρ' Q R e q => ?_⟩
  obtain ⟨⟨s1, ρ1⟩, e1, e⟩ := of_bind e
  obtain ⟨y, e2, e⟩ := of_bind e
  obtain ⟨c, e⟩ := of_iteN e
  refine s0 G ρ σ H s1 ρ1 _ R e1 fun v G1 H1 E1 => ⟨y, strS_ok E1.res e2, Nat.le_trans (of_decide_eq_true c) (by decide), ?_⟩
  exact ss (acc ++ y) G1 ρ1 σ H1 z ρ' Q E1.rl e fun G2 H2 R2 p2 => q G2 H2 R2 (E1.st.trans p2)
def fstF (g : JF) : EF := fun ρ => (g Str.empty ρ).map fun p => (.fz (.str p.1), p.2)
theorem de_fst {v1 v2 : Expr} {rest : List Expr} {g : JF} (h : DJ X (v1 :: v2 :: rest) g) : DE X (.JoinedStr (v1 :: v2 :: rest) pos) (fstF g) := by
  obtain ⟨ts, ps, ss⟩ := h
  refine ⟨_, pe_joined ps, fun G ρ σ H s ρ' Q R e q => ?_⟩
  obtain ⟨⟨z, ρ1⟩, e1, e⟩ := of_map e
  cases e
  exact ss Str.empty G ρ σ H z ρ1 _ R e1 fun G1 H1 R1 p1 => q _ G1 H1 ⟨R1, p1, .str z⟩

/-! ### removeprefix, partition -/
def rmpF (f g : EF) : EF := fun ρ => (f ρ).bind fun p => (strS p.1).bind fun y => (g p.2).bind fun q => (strS q.1).bind fun z => if okN y.length then some (.fz (.str (Txt.removeprefix y z)), q.2) else none
theorem de_rmp {o e : Expr} {f g : EF} {apos : Pos} (ho : DE X o f) (he : DE X e g) (hs : starEach [e] X.env = [(false, eval e X.env)] := by rfl) (hbase : attributeBase o "removeprefix" X.env (eval o X.env) = eval o X.env := by rfl) (hline : (apos.endLine == pos.line) = true := by rfl) :
    DE X (.Call (.Attribute o "removeprefix" apos) [e] [] pos) (rmpF f g) := by
  obtain ⟨t, p, s0⟩ := ho
  obtain ⟨t2, p2, s2⟩ := he
  refine ⟨_, pe_m1 PySem.F.slot_str_removeprefix PySem.F.type_str_removeprefix mt_removeprefix p p2 hs hbase hline, fun G ρ σ H s ρ' Q R e q => ?_⟩
  obtain ⟨⟨s1, ρ1⟩, e1, e⟩ := of_bind e
  obtain ⟨y, e2, e⟩ := of_bind e
  obtain ⟨⟨s3, ρ3⟩, e3, e⟩ := of_bind e
  obtain ⟨z, e4, e⟩ := of_bind e
  obtain ⟨c, e⟩ := of_ite e
  cases e
  refine s0 G ρ σ H s1 ρ1 _ R e1 fun v G1 H1 E1 => ⟨⟨y, strS_ok E1.res e2⟩, ?_⟩
  refine s2 G1 ρ1 σ H1 s3 ρ3 _ E1.rl e3 fun u G2 H2 E2 => ?_
  exact ⟨y, z, strS_ok E1.res e2, by rw [strS_ok E2.res e4], Nat.le_trans (of_decide_eq_true c) (by decide), q _ G2 H2 ⟨E2.rl, E1.st.trans E2.st, .str _⟩⟩
def parD (a b : Str) : PyData := .tuple [.str (Txt.partition a b).1, .str (Txt.partition a b).2.1, .str (Txt.partition a b).2.2]
def ptnF (f g : EF) : EF := fun ρ => (f ρ).bind fun p => (strS p.1).bind fun y => (g p.2).bind fun q => (strS q.1).bind fun z => if okN y.length && !(z.length == 0) then some (.fz (parD y z), q.2) else none
theorem de_ptn {o e : Expr} {f g : EF} {apos : Pos} (ho : DE X o f) (he : DE X e g) (hs : starEach [e] X.env = [(false, eval e X.env)] := by rfl) (hbase : attributeBase o "partition" X.env (eval o X.env) = eval o X.env := by rfl) (hline : (apos.endLine == pos.line) = true := by rfl) :
    DE X (.Call (.Attribute o "partition" apos) [e] [] pos) (ptnF f g) := by
  obtain ⟨t, p, s0⟩ := ho
  obtain ⟨t2, p2, s2⟩ := he
  refine ⟨_, pe_partition p p2 hs hbase hline, fun G ρ σ H s ρ' Q R e q => ?_⟩
  obtain ⟨⟨s1, ρ1⟩, e1, e⟩ := of_bind e
  obtain ⟨y, e2, e⟩ := of_bind e
  obtain ⟨⟨s3, ρ3⟩, e3, e⟩ := of_bind e
  obtain ⟨z, e4, e⟩ := of_bind e
  obtain ⟨c, e⟩ := of_ite e
  cases e
  rw [Bool.and_eq_true] at c
  refine s0 G ρ σ H s1 ρ1 _ R e1 fun v G1 H1 E1 => ⟨⟨y, strS_ok E1.res e2⟩, ?_⟩
  refine s2 G1 ρ1 σ H1 s3 ρ3 _ E1.rl e3 fun u G2 H2 E2 => ?_
  refine ⟨y, z, strS_ok E1.res e2, by rw [strS_ok E2.res e4], by simpa using c.2, Nat.le_trans (of_decide_eq_true c.1) (by decide), fun a ha => ?_⟩
  exact q _ _ _ (ev_new E2.rl (E1.st.trans E2.st) (.tup E2.rl.sub ha (.cons (.str _) (.cons (.str _) (.cons (.str _) .nil)))))

/-! ### int(text) -/
def gIntS : List PyData → Option S
  | [.str z] => if decide (z.length ≤ 640) then (PySem.intText? z).map fun i => .fz (.int i) else none
  | _ => none
theorem dcl_intS : DCl X (.type "int") gIntS := by
  refine ⟨_, call_int_str, fun G H vs ds s Q sg pk eg q => ?_⟩
  match ds, pk with
  | [.str z], .cons h .nil =>
    obtain ⟨c, e⟩ := of_iteN (show (if decide (z.length ≤ 640) then (PySem.intText? z).map fun i => S.fz (.int i) else none) = some s from eg)
    obtain ⟨i, e1, e2⟩ := of_map e
    subst e2
    rw [h.str]
    exact ⟨z, i, rfl, e1, of_decide_eq_true c, q _ G H (.same sg (.int _))⟩

/-! ### in, not in of a tuple of data -/
def rInTD (K : PySem.W.Frag) : R2 := fun x y H Q => ∃ d ds, Dp K H x d ∧ Dp K H y (.tuple ds) ∧ SeqAt.shaped d = true ∧ d.depth ≤ 60 ∧ SeqAt.shaped (.tuple ds) = true ∧ Q (.bl (ds.any fun z => PyData.eqv z d)) H
def rNotInTD (K : PySem.W.Frag) : R2 := fun x y H Q => ∃ d ds, Dp K H x d ∧ Dp K H y (.tuple ds) ∧ SeqAt.shaped d = true ∧ d.depth ≤ 60 ∧ SeqAt.shaped (.tuple ds) = true ∧ Q (.bl (!ds.any fun z => PyData.eqv z d)) H
theorem op_inTD (hu : X.A.units + 64 < cLine) : OpR X (compareOp .In) (rInTD X.K) := by
  intro pins s σ H x y v u Q I rx ry h
  obtain ⟨d, ds, hd, he, sd, dd, se, q⟩ := h
  obtain ⟨as, r1⟩ := Dp.reads I d x v hd rx
  obtain ⟨bs, r2⟩ := Dp.reads I (.tuple ds) y u he ry
  exact SeqAt.in_tuple_reads r2 r1 (SeqAt.canLay_of_shaped se) (SeqAt.canLay_of_shaped sd) (by omega) ⟨.bl _, H, I, rfl, q⟩
theorem op_notInTD (hu : X.A.units + 64 < cLine) : OpR X (compareOp .NotIn) (rNotInTD X.K) := by
  intro pins s σ H x y v u Q I rx ry h
  obtain ⟨d, ds, hd, he, sd, dd, se, q⟩ := h
  obtain ⟨as, r1⟩ := Dp.reads I d x v hd rx
  obtain ⟨bs, r2⟩ := Dp.reads I (.tuple ds) y u he ry
  exact SeqAt.notIn_tuple_reads r2 r1 (SeqAt.canLay_of_shaped se) (SeqAt.canLay_of_shaped sd) (by omega) ⟨.bl _, H, I, rfl, q⟩
def gInT : PyData → PyData → Option S
  | d, .tuple ds => if SeqAt.shaped d && (decide (d.depth ≤ 60) && SeqAt.shaped (.tuple ds)) then some (.fz (.bool (ds.any fun z => PyData.eqv z d))) else none
  | _, _ => none
def gNotInT : PyData → PyData → Option S
  | d, .tuple ds => if SeqAt.shaped d && (decide (d.depth ≤ 60) && SeqAt.shaped (.tuple ds)) then some (.fz (.bool (!ds.any fun z => PyData.eqv z d))) else none
  | _, _ => none
theorem dop_inT (hu : X.A.units + 64 < cLine) : DOp X (compareOp .In) gInT := by
  refine ⟨_, op_inTD hu, fun G H x y d e s Q sg px py eg q => ?_⟩
  cases e with
  | tuple ds =>
    obtain ⟨c, e⟩ := of_ite (show (if SeqAt.shaped d && (decide (d.depth ≤ 60) && SeqAt.shaped (.tuple ds)) then some (S.fz (.bool (ds.any fun z => PyData.eqv z d))) else none) = some s from eg)
    subst e
    rw [Bool.and_eq_true, Bool.and_eq_true] at c
    exact ⟨d, ds, Dq.dp d (px.dq sg), Dq.dp (.tuple ds) (py.dq sg), c.1, of_decide_eq_true c.2.1, c.2.2, q _ G H (.same sg (.bl _))⟩
  | _ => cases eg
theorem dop_notInT (hu : X.A.units + 64 < cLine) : DOp X (compareOp .NotIn) gNotInT := by
  refine ⟨_, op_notInTD hu, fun G H x y d e s Q sg px py eg q => ?_⟩
  cases e with
  | tuple ds =>
    obtain ⟨c, e⟩ := of_ite (show (if SeqAt.shaped d && (decide (d.depth ≤ 60) && SeqAt.shaped (.tuple ds)) then some (S.fz (.bool (!ds.any fun z => PyData.eqv z d))) else none) = some s from eg)
    subst e
    rw [Bool.and_eq_true, Bool.and_eq_true] at c
    exact ⟨d, ds, Dq.dp d (px.dq sg), Dq.dp (.tuple ds) (py.dq sg), c.1, of_decide_eq_true c.2.1, c.2.2, q _ G H (.same sg (.bl _))⟩
  | _ => cases eg
/-- a block that is never come to -/
theorem pss_never {ss : List Stmt} : PSs X ss (fun _ _ _ => False) := ⟨fun _ _ _ _ _ _ h => h.elim⟩
theorem db_never {pm : Nat → Bool} {ss : List Stmt} : DB pm X ss (fun _ => none) := ⟨_, pss_never, fun _ _ _ _ _ _ _ e _ => nomatch e⟩
end
/-! ### sep.join(reversed(list)) -/
theorem join_rev {prog : Program} {w : World} {A : Around} {E : Value → Shared → Prop} {s : Shared} {x : Str} {t : Tok} {it l : Addr} {items : Array Value} {ys : List Str} {Q : Value → Shared → Prop} (hh : A.handled = none) (hit : s.heap.IsRevIter it l ((items.size : Int) - 1)) (hl : s.heap.IsList l items) (hne : l ≠ it) (hn : items.size ≤ sizeLine)
    (hP : ∀ acc : Array Value, ItemsOf (fun i v => items[items.size - 1 - i]? = some v) acc items.size → StrsAre acc.toList ys) (hok : (ys.map (·.length)).sum + ys.length * x.length ≤ 16777216)
    (hq : ∀ (h' : Heap) (tk : Nat), (∀ b o, b ≠ it → s.heap.get? b = some o → h'.get? b = some o) → ∀ t' k, Q (.str (Txt.join x ys) t') { s with heap := h', toks := k }) :
    wpAny (model prog w) A (call (.builtin "str.join") [.str x t, .ref it]) Q E s := by
  refine wpAny_call (codeAny_call_builtin PySem.F.slot_str_join.plain PySem.F.entry_str_join (PySem.F.slot_str_join.check _ _ _ _ _ _ _ _ (typeIs_str _ _ _) (PySem.F.args_str_join_2 _ _) ?_))
  rw [join_tree_other]
  refine wpAny_bind (wpAny_typeOf (Heap.IsRevIter.typeIs hit) ?_)
  show wpAny _ A.in1 ((pyIter (.ref it)).tryCatch _ >>= fun it => collect it >>= fun items => joinTail x items) _ _ s
  refine wpAny_bind (wpAny_tryCatch (wpAny_pyIter_revIter hit ?_))
  refine wpAny_bind (RT.collect_rev hh hit hl hne hn fun h' tk acc hk hacc => ?_)
  obtain ⟨l', hl', ht⟩ := strsAre_values (hP acc hacc)
  subst ht
  rw [hl']
  have hok' := joinOk_of hok
  unfold JoinOk at hok'
  rw [Bool.not_eq_true'] at hok'
  have g : Gives (joinTail x (strValues l')) (joinMade x l') := by
    have g0 := gives_joinTail x l' hok'
    cases l' with
    | nil => exact g0
    | cons p r => cases r with
      | nil => exact g0
      | cons q r' => exact g0
  exact g prog w A (wants Q E) { s with heap := h', toks := tk } (post_join l' ⟨joinFit_length hok', hq h' tk hk⟩)
def tJoinRev (K : PySem.W.Frag) (to te : TE) : TE := fun σ H Q => to σ H fun x H1 => ∃ sep : Str, x = .str sep ∧ te σ H1 fun v H2 => ∃ (a : Addr) (ys : List Str), v = .ref a ∧ SqL K H2 a (ys.map V.str) ∧ (ys.map (·.length)).sum + ys.length * sep.length ≤ 16777216 ∧ Q (.str (Txt.join sep ys.reverse)) H2
section
variable {X : Cx}
theorem pe_joinRev {o e : Expr} {to te : TE} {apos p2 pos2 pos : Pos} (hc : X.calm = true) (ho : PE X o to) (hg2 : Gl X "reversed") (hm2 : X.mg "reversed" = none) (he : PE X e te)
    (hs : starEach [e] X.env = (false, eval e X.env) :: starEach [] X.env := by rfl)
    (hs2 : starEach [.Call (.Name "reversed" p2) [e] [] pos2] X.env = [(false, eval (.Call (.Name "reversed" p2) [e] [] pos2) X.env)] := by rfl)
    (hbase : attributeBase o "join" X.env (eval o X.env) = eval o X.env := by rfl) (hline : (apos.endLine == pos.line) = true := by rfl) :
    PE X (.Call (.Attribute o "join" apos) [.Call (.Name "reversed" p2) [e] [] pos2] [] pos) (tJoinRev X.K to te) := by
  refine ⟨fun pins s σ H Q I h => ?_⟩
  refine PySem.Call_method1 hbase hs2 hline (thn (ho.run pins s σ H _ I h) fun v s1 ⟨x, H1, I1, r1, q1⟩ => ?_)
  obtain ⟨sep, rfl, q1⟩ := q1
  obtain ⟨t, rfl⟩ := _root_.id r1
  refine ⟨"str", _, PySem.F.plainAttrs_str, PySem.F.slot_str_join, PySem.F.type_str_join, typeIs_str _ _ _, (fun _ e => nomatch e), Calls.callWith_builtin rfl (Calls.evalArgs_plain (Calls.spliced_cons ?_))⟩
  refine Call_ (ld_blt I1 hg2 hm2 PyProof.Rows.boot_reversed (PyProof.Rows.callWith_type1 (args_cons (thn (he.run pins s1 σ H1 _ I1 q1) fun u s2 ⟨v2, H2, I2, r2, q2⟩ => args_nil ?_) hs) hs rfl))
  obtain ⟨a, ys, ev, hq, hok, q2⟩ := q2
  subst ev
  obtain rfl : u = Value.ref a := r2
  obtain ⟨its, rv, p', hz⟩ := I2.list hq
  refine call_reversed_list p'.isList (Calls.spliced_nil ?_)
  have k0 : ∀ b o, s2.heap.get? b = some o → (s2.heap.push (revObj a ((its.toArray.size : Int) - 1))).get? b = some o := fun b o e => Heap.get?_push_of_some _ e
  have I3 : Inv X pins σ H2 { s2 with heap := s2.heap.push (revObj a ((its.toArray.size : Int) - 1)) } := I2.kept (t' := s2.toks) k0
  obtain ⟨f0, f1, f2, f3, f4, f5⟩ := I2.fpOk (H' := H2) (b := s2.heap.objs.size) (Nat.le_refl _) (I2.hok.fresh (Nat.le_refl _))
  have hl := p'.isList
  obtain ⟨ol, hol, _⟩ := id hl
  have hne : a ≠ s2.heap.objs.size := Nat.ne_of_lt (Heap.lt_size hol)
  have hn : its.toArray.size ≤ sizeLine := by rw [List.size_toArray, ← rv.length]; exact hz
  refine join_rev (s := { s2 with heap := s2.heap.push (revObj a ((its.toArray.size : Int) - 1)) }) (ys := ys.reverse) (I2.ok.hd hc) ⟨_, Heap.get?_push_size _ rfl, rfl, rfl⟩ (hl.push _) hne hn (fun acc hi => strs_of_vals (by rw [List.map_reverse]; exact RT.vals_rev rv hi)) (by rw [List.map_reverse, List.sum_reverse, List.length_reverse]; exact hok) fun h' tk hk t' k => ?_
  exact ⟨.str _, H2, (I3.turned (t' := k) (fun b o hb e => hk b o hb e) f0 f1 f3 f4 f5), ⟨t', rfl⟩, q2⟩
/-- the list is empty -/
def jrvF (f g : EF) : EF := fun ρ => (f ρ).bind fun p => (strS p.1).bind fun y => (g p.2).bind fun q => (S.peek q.2 q.1).bind fun d => match d with
  | .list [] => some (.fz (.str (Txt.join y [])), q.2)
  | _ => none
theorem de_jrv {o e : Expr} {f g : EF} {apos p2 pos2 pos : Pos} (hc : X.calm = true) (ho : DE X o f) (hg2 : Gl X "reversed") (hm2 : X.mg "reversed" = none) (he : DE X e g)
    (hs : starEach [e] X.env = (false, eval e X.env) :: starEach [] X.env := by rfl)
    (hs2 : starEach [.Call (.Name "reversed" p2) [e] [] pos2] X.env = [(false, eval (.Call (.Name "reversed" p2) [e] [] pos2) X.env)] := by rfl)
    (hbase : attributeBase o "join" X.env (eval o X.env) = eval o X.env := by rfl) (hline : (apos.endLine == pos.line) = true := by rfl) :
    DE X (.Call (.Attribute o "join" apos) [.Call (.Name "reversed" p2) [e] [] pos2] [] pos) (jrvF f g) := by
  obtain ⟨t, p, s0⟩ := ho
  obtain ⟨t2, p2', s2⟩ := he
  refine ⟨_, pe_joinRev hc p hg2 hm2 p2' hs hs2 hbase hline, fun G ρ σ H s ρ' Q R e q => ?_⟩
  obtain ⟨⟨s1, ρ1⟩, e1, e⟩ := of_bind e
  obtain ⟨y, e2, e⟩ := of_bind e
  obtain ⟨⟨s3, ρ3⟩, e3, e⟩ := of_bind e
  obtain ⟨d, e4, e⟩ := of_bind e
  refine s0 G ρ σ H s1 ρ1 _ R e1 fun v G1 H1 E1 => ⟨y, strS_ok E1.res e2, ?_⟩
  refine s2 G1 ρ1 σ H1 s3 ρ3 _ E1.rl e3 fun u G2 H2 E2 => ?_
  have pk := peek_ok E2.rl E2.res e4
  match d, pk, e with
  | .list [], pk, e =>
    cases e
    obtain ⟨a, xs, ea, ha, da⟩ := pk.list E2.rl.sub
    subst ea
    cases da
    exact ⟨a, [], rfl, .of ha, by simp, q _ G2 H2 ⟨E2.rl, E1.st.trans E2.st, .str _⟩⟩
end
end DL

namespace RT
structure Cl where
  f : Rat
  p : Rat
  l : Option Rat
  h : Option Rat
deriving DecidableEq
def bnd (x : Rat) (l h : Option Rat) : Rat :=
  match l with
  | some a => if x < a then a else (match h with | some b => if b < x then b else x | none => x)
  | none => match h with | some b => if b < x then b else x | none => x
def ap (c : Cl) (x : Rat) : Rat := bnd (c.f * x + c.p) c.l c.h
def nrm (f p : Rat) (l h : Option Rat) : Cl :=
  if f = 0 then ⟨0, bnd p l h, none, none⟩
  else match l with
    | some a => if h = some a then ⟨0, a, none, none⟩ else ⟨f, p, some a, h⟩
    | none => ⟨f, p, none, h⟩
def mv (b : Option Rat) (c : Cl) (m : Option Rat) : Option Rat := match b with
  | none => m
  | some x => some (ap c x)
def ch2 (a b : Cl) : Cl := nrm (a.f * b.f) (b.f * a.p + b.p) (mv a.l b b.l) (mv a.h b b.h)
def ordd : Option Rat → Option Rat → Prop
  | some a, some b => a ≤ b
  | _, _ => True
def ordS : Option Rat → Option Rat → Prop
  | some a, some b => a < b
  | _, _ => True
/-- factor at least 0, bounds in order -/
def WF (c : Cl) : Prop := 0 ≤ c.f ∧ ordd c.l c.h
def NF (c : Cl) : Prop := (c.f = 0 ∧ c.l = none ∧ c.h = none) ∨ (0 < c.f ∧ ordS c.l c.h)
def idC : Cl := ⟨1, 0, none, none⟩
theorem NF.wf {c : Cl} (h : NF c) : WF c := by
  obtain ⟨f, p, l, u⟩ := c
  rcases h with ⟨h1, h2, h3⟩ | ⟨h1, h2⟩
  · dsimp only at h1 h2 h3
    subst h1 h2 h3
    exact ⟨by grind, trivial⟩
  · refine ⟨by dsimp only at h1 ⊢; grind, ?_⟩
    dsimp only at h2 ⊢
    cases l <;> cases u <;> simp only [ordS, ordd] at h2 ⊢
    grind
theorem NF.id : NF idC := .inr ⟨by decide, trivial⟩
theorem bnd_mono {x y : Rat} {l h : Option Rat} (o : ordd l h) (e : x ≤ y) : bnd x l h ≤ bnd y l h := by
  unfold bnd ordd at *
  cases l <;> cases h <;> grind
theorem bnd_lip {x y : Rat} {l h : Option Rat} (o : ordd l h) (e : x ≤ y) : bnd y l h - bnd x l h ≤ y - x := by
  unfold bnd ordd at *
  cases l <;> cases h <;> grind
theorem mulm {a x y : Rat} (h : 0 ≤ a) (e : x ≤ y) : a * x ≤ a * y := Rat.mul_le_mul_of_nonneg_left e h
theorem mulp {a x y : Rat} (h : 0 < a) (e : x < y) : a * x < a * y := (Rat.mul_lt_mul_left h).mpr e
theorem ap_mono {c : Cl} {x y : Rat} (w : WF c) (e : x ≤ y) : ap c x ≤ ap c y := by
  refine bnd_mono w.2 ?_
  have := mulm w.1 e
  grind
theorem ap_lip {c : Cl} {x y : Rat} (w : WF c) (e : x ≤ y) : ap c y - ap c x ≤ c.f * (y - x) := by
  have h := bnd_lip (x := c.f * x + c.p) (y := c.f * y + c.p) (l := c.l) (h := c.h) w.2 (by have := mulm w.1 e; grind)
  unfold ap
  grind
theorem ap_nrm {f p : Rat} {l h : Option Rat} (w : 0 ≤ f) (o : ordd l h) (x : Rat) : ap (nrm f p l h) x = bnd (f * x + p) l h := by
  unfold nrm
  split
  · rename_i e
    subst e
    unfold ap bnd
    grind
  · cases l with
    | none => rfl
    | some a =>
      dsimp only
      split
      · rename_i e
        subst e
        unfold ap bnd
        grind
      · rfl
theorem nrm_nf {f p : Rat} {l h : Option Rat} (w : 0 ≤ f) (o : ordd l h) : NF (nrm f p l h) := by
  unfold nrm
  split
  · exact .inl ⟨rfl, rfl, rfl⟩
  · cases l with
    | none => exact .inr ⟨by dsimp only; grind, trivial⟩
    | some a =>
      dsimp only
      split
      · exact .inl ⟨rfl, rfl, rfl⟩
      · refine .inr ⟨by dsimp only; grind, ?_⟩
        cases h with
        | none => trivial
        | some b =>
          simp only [ordd, ordS] at o ⊢
          grind
theorem mv_ord {a b : Cl} (wa : WF a) (wb : WF b) : ordd (mv a.l b b.l) (mv a.h b b.h) := by
  obtain ⟨f, p, l, h⟩ := a
  have k := fun x y => ap_mono (c := b) (x := x) (y := y) wb
  obtain ⟨g, q, m, u⟩ := b
  obtain ⟨_, o1⟩ := wa
  obtain ⟨_, o2⟩ := wb
  dsimp only at *
  cases l <;> cases h <;> simp only [mv, ordd] at *
  · exact o2
  · rename_i b
    cases m with
    | none => trivial
    | some z =>
      cases u with
      | none => simp only [ap, bnd]; grind
      | some v => simp only [ap, bnd] at *; grind
  · rename_i b
    cases u with
    | none => trivial
    | some z =>
      cases m with
      | none => simp only [ap, bnd]; grind
      | some v => simp only [ap, bnd] at *; grind
  · exact k _ _ o1
theorem nn {a b : Rat} (h : 0 ≤ a) (h2 : 0 ≤ b) : 0 ≤ a * b := Rat.mul_nonneg h h2
theorem ch2_nf {a b : Cl} (wa : WF a) (wb : WF b) : NF (ch2 a b) := nrm_nf (nn wa.1 wb.1) (mv_ord wa wb)
theorem cmp_n {Y q : Rat} {m u : Option Rat} : bnd (Y + q) m u = bnd (Y + q) (mv none ⟨0, 0, none, none⟩ m) (mv none ⟨0, 0, none, none⟩ u) := rfl
theorem cmp_l {y l Y L q : Rat} {m u : Option Rat} (o : ordd m u) (k1 : y ≤ l → Y ≤ L) (k2 : l ≤ y → L ≤ Y) : bnd ((if y < l then L else Y) + q) m u = bnd (Y + q) (some (bnd (L + q) m u)) u := by
  by_cases h : y < l
  · have := k1 (by grind)
    rw [if_pos h]
    cases m <;> cases u <;> simp only [bnd, ordd] at * <;> grind
  · have := k2 (by grind)
    rw [if_neg h]
    cases m <;> cases u <;> simp only [bnd, ordd] at * <;> grind
theorem cmp_h {y l Y L q : Rat} {m u : Option Rat} (o : ordd m u) (k1 : y ≤ l → Y ≤ L) (k2 : l ≤ y → L ≤ Y) : bnd ((if l < y then L else Y) + q) m u = bnd (Y + q) m (some (bnd (L + q) m u)) := by
  by_cases h : l < y
  · have := k2 (by grind)
    rw [if_pos h]
    cases m <;> cases u <;> simp only [bnd, ordd] at * <;> grind
  · have := k1 (by grind)
    rw [if_neg h]
    cases m <;> cases u <;> simp only [bnd, ordd] at * <;> grind
theorem sat_hi {z w : Rat} {m u : Option Rat} (o : ordd m u) (h : bnd z m u < z) (e : z ≤ w) : bnd w m u = bnd z m u := by
  cases m <;> cases u <;> simp only [bnd, ordd] at * <;> grind
theorem sat_lo {z w : Rat} {m u : Option Rat} (o : ordd m u) (h : z < bnd z m u) (e : w ≤ z) : bnd w m u = bnd z m u := by
  cases m <;> cases u <;> simp only [bnd, ordd] at * <;> grind
theorem bnd_lh {A lo hi : Rat} : bnd A (some lo) (some hi) = if A < lo then lo else if hi < A then hi else A := rfl
theorem cmp_lh {y l h Y L H q : Rat} {m u : Option Rat} (o : ordd m u) (_olh : l ≤ h) (k1 : y ≤ l → Y ≤ L) (k2 : l ≤ y → L ≤ Y) (k3 : y ≤ h → Y ≤ H) (k4 : h ≤ y → H ≤ Y) (k5 : L ≤ H) :
    bnd ((if y < l then L else if h < y then H else Y) + q) m u = bnd (Y + q) (some (bnd (L + q) m u)) (some (bnd (H + q) m u)) := by
  rw [bnd_lh]
  have mLH := bnd_mono (x := L + q) (y := H + q) o (by grind)
  have s1 := fun e => sat_hi (z := L + q) (w := H + q) o e (by grind)
  have s2 := fun e => sat_lo (z := H + q) (w := L + q) o e (by grind)
  by_cases c : y < l
  · have k := k1 (by grind)
    rw [if_pos c]
    clear k1 k2 k3 k4
    generalize bnd (L + q) m u = A at *
    generalize bnd (H + q) m u = B at *
    grind
  · have k := k2 (by grind)
    rw [if_neg c]
    by_cases c2 : h < y
    · have k' := k4 (by grind)
      rw [if_pos c2]
      clear k1 k2 k3 k4
      generalize bnd (L + q) m u = A at *
      generalize bnd (H + q) m u = B at *
      grind
    · have k' := k3 (by grind)
      rw [if_neg c2]
      have m1 := bnd_mono (x := L + q) (y := Y + q) o (by grind)
      have m2 := bnd_mono (x := Y + q) (y := H + q) o (by grind)
      have s3 := fun e => sat_hi (z := L + q) (w := Y + q) o e (by grind)
      have s4 := fun e => sat_hi (z := Y + q) (w := H + q) o e (by grind)
      have s5 := fun e => sat_lo (z := H + q) (w := Y + q) o e (by grind)
      have s6 := fun e => sat_lo (z := Y + q) (w := L + q) o e (by grind)
      clear k1 k2 k3 k4
      generalize bnd (L + q) m u = A at *
      generalize bnd (H + q) m u = B at *
      generalize bnd (Y + q) m u = C at *
      grind
/-- the chain makes of each amount what its parts make one after the other -/
theorem ap_ch2 {a b : Cl} (wa : WF a) (wb : WF b) (x : Rat) : ap (ch2 a b) x = ap b (ap a x) := by
  unfold ch2
  rw [ap_nrm (nn wa.1 wb.1) (mv_ord wa wb)]
  have k := fun y z (e : y ≤ z) => mulm (a := b.f) (x := y) (y := z) wb.1 e
  obtain ⟨f, p, l, h⟩ := a
  obtain ⟨g, q, m, u⟩ := b
  obtain ⟨wf, o1⟩ := wa
  obtain ⟨wg, o2⟩ := wb
  dsimp only at *
  have e : f * g * x + (g * p + q) = g * (f * x + p) + q := by clear k; grind
  rw [e]
  show _ = bnd (g * bnd (f * x + p) l h + q) m u
  generalize f * x + p = y
  cases l with
  | none =>
    cases h with
    | none => rfl
    | some h =>
      have := cmp_h (q := q) o2 (k y h) (k h y)
      simp only [mv, ap]
      rw [← this]
      congr 2
      simp only [bnd]
      split <;> rfl
  | some l =>
    cases h with
    | none =>
      have := cmp_l (q := q) o2 (k y l) (k l y)
      simp only [mv, ap]
      rw [← this]
      congr 2
      simp only [bnd]
      split <;> rfl
    | some h =>
      have := cmp_lh (q := q) o2 o1 (k y l) (k l y) (k y h) (k h y) (k l h o1)
      simp only [mv, ap]
      rw [← this]
      congr 2
      simp only [bnd]
      split
      · rfl
      · split <;> rfl
end RT

namespace RT
/-- the amount that a rising clause brings to v, before its bounds -/
theorem inv {f p v : Rat} (h : 0 < f) : f * ((v - p) / f) + p = v := by
  have : f ≠ 0 := by grind
  grind
theorem bnd_in {x : Rat} {l h : Option Rat} (a : ordS l (some x)) (b : ordS (some x) h) : bnd x l h = x := by
  cases l <;> cases h <;> simp only [bnd, ordS] at * <;> grind
theorem two_in {l h : Option Rat} (o : ordS l h) : ∃ v w : Rat, v < w ∧ ordS l (some v) ∧ ordS (some w) h ∧ ordS l (some w) ∧ ordS (some v) h := by
  cases l with
  | none =>
    cases h with
    | none => exact ⟨0, 1, by decide, trivial, trivial, trivial, trivial⟩
    | some b => exact ⟨b - 2, b - 1, by grind, trivial, by simp only [ordS]; grind, trivial, by simp only [ordS]; grind⟩
  | some a =>
    cases h with
    | none => exact ⟨a + 1, a + 2, by grind, by simp only [ordS]; grind, trivial, by simp only [ordS]; grind, trivial⟩
    | some b =>
      simp only [ordS] at o ⊢
      exact ⟨(2 * a + b) / 3, (a + 2 * b) / 3, by grind, by grind, by grind, by grind, by grind⟩
theorem ap_in {c : Cl} (hf : 0 < c.f) {v : Rat} (a : ordS c.l (some v)) (b : ordS (some v) c.h) : ap c ((v - c.p) / c.f) = v := by
  unfold ap
  rw [inv hf]
  exact bnd_in a b
theorem bnd_ge {x a : Rat} {h : Option Rat} (o : ordS (some a) h) : a ≤ bnd x (some a) h := by
  cases h <;> simp only [bnd, ordS] at * <;> grind
theorem bnd_le {x b : Rat} {l : Option Rat} (o : ordS l (some b)) : bnd x l (some b) ≤ b := by
  cases l <;> simp only [bnd, ordS] at * <;> grind
theorem bnd_at_lo {x a : Rat} {h : Option Rat} (o : ordS (some a) h) (e : x ≤ a) : bnd x (some a) h = a := by
  cases h <;> simp only [bnd, ordS] at * <;> grind
theorem bnd_at_hi {x b : Rat} {l : Option Rat} (o : ordS l (some b)) (e : b ≤ x) : bnd x l (some b) = b := by
  cases l <;> simp only [bnd, ordS] at * <;> grind
theorem bnd_nolo {x : Rat} {h : Option Rat} : bnd x none h ≤ x := by
  cases h <;> simp only [bnd] <;> grind
theorem bnd_nohi {x : Rat} {l : Option Rat} : x ≤ bnd x l none := by
  cases l <;> simp only [bnd] <;> grind
/-- the low bound is the least value -/
theorem lo_le {c d : Cl} (hc : 0 < c.f) (hd : 0 < d.f) (oc : ordS c.l c.h) (od : ordS d.l d.h) (e : ∀ x, ap c x = ap d x) {a : Rat} (h : c.l = some a) : ∃ a', d.l = some a' ∧ a' ≤ a := by
  rw [h] at oc
  cases q : d.l with
  | none =>
    exfalso
    have e1 := e ((a - 1 - d.p) / d.f)
    have h1 : a ≤ ap c ((a - 1 - d.p) / d.f) := by unfold ap; rw [h]; exact bnd_ge oc
    have h2 : ap d ((a - 1 - d.p) / d.f) ≤ a - 1 := by unfold ap; rw [inv hd, q]; exact bnd_nolo
    grind
  | some a' =>
    refine ⟨a', rfl, ?_⟩
    rw [q] at od
    have e1 := e ((a - c.p) / c.f)
    have h1 : ap c ((a - c.p) / c.f) = a := by unfold ap; rw [inv hc, h]; exact bnd_at_lo oc (by grind)
    have h2 : a' ≤ ap d ((a - c.p) / c.f) := by unfold ap; rw [q]; exact bnd_ge od
    grind
theorem hi_ge {c d : Cl} (hc : 0 < c.f) (hd : 0 < d.f) (oc : ordS c.l c.h) (od : ordS d.l d.h) (e : ∀ x, ap c x = ap d x) {a : Rat} (h : c.h = some a) : ∃ a', d.h = some a' ∧ a ≤ a' := by
  rw [h] at oc
  cases q : d.h with
  | none =>
    exfalso
    have e1 := e ((a + 1 - d.p) / d.f)
    have h1 : ap c ((a + 1 - d.p) / d.f) ≤ a := by unfold ap; rw [h]; exact bnd_le oc
    have h2 : a + 1 ≤ ap d ((a + 1 - d.p) / d.f) := by unfold ap; rw [inv hd, q]; exact bnd_nohi
    grind
  | some a' =>
    refine ⟨a', rfl, ?_⟩
    rw [q] at od
    have e1 := e ((a - c.p) / c.f)
    have h1 : ap c ((a - c.p) / c.f) = a := by unfold ap; rw [inv hc, h]; exact bnd_at_hi oc (by grind)
    have h2 : ap d ((a - c.p) / c.f) ≤ a' := by unfold ap; rw [q]; exact bnd_le od
    grind
theorem rise_ne {c d : Cl} (hc : 0 < c.f) (oc : ordS c.l c.h) (hd : d.f = 0) (hl : d.l = none) (hh : d.h = none) (e : ∀ x, ap c x = ap d x) : False := by
  obtain ⟨v, w, h, a1, a2, a3, a4⟩ := two_in oc
  have e1 := e ((v - c.p) / c.f)
  have e2 := e ((w - c.p) / c.f)
  rw [ap_in hc a1 a4] at e1
  rw [ap_in hc a3 a2] at e2
  unfold ap bnd at e1 e2
  rw [hd, hl, hh] at e1 e2
  grind
/-- two clauses in normal form that make the same of all amounts are equal -/
theorem nf_ext {c d : Cl} (nc : NF c) (nd : NF d) (e : ∀ x, ap c x = ap d x) : c = d := by
  rcases nc with ⟨c1, c2, c3⟩ | ⟨c1, c2⟩ <;> rcases nd with ⟨d1, d2, d3⟩ | ⟨d1, d2⟩
  · have e0 := e 0
    unfold ap bnd at e0
    rw [c2, c3, d2, d3] at e0
    obtain ⟨f, p, l, h⟩ := c
    obtain ⟨g, q, m, u⟩ := d
    dsimp only at *
    subst c1 c2 c3 d1 d2 d3
    congr 1
    grind
  · exact (rise_ne d1 d2 c1 c2 c3 fun x => (e x).symm).elim
  · exact (rise_ne c1 c2 d1 d2 d3 e).elim
  · have el : c.l = d.l := by
      cases h : c.l with
      | some a =>
        obtain ⟨a', h1, h2⟩ := lo_le c1 d1 c2 d2 e h
        obtain ⟨a2, h3, h4⟩ := lo_le d1 c1 d2 c2 (fun x => (e x).symm) h1
        rw [h] at h3
        cases h3
        rw [h1]
        congr 1
        grind
      | none =>
        cases q : d.l with
        | none => rfl
        | some a =>
          obtain ⟨a2, h3, h4⟩ := lo_le d1 c1 d2 c2 (fun x => (e x).symm) q
          rw [h] at h3
          cases h3
    have eh : c.h = d.h := by
      cases h : c.h with
      | some a =>
        obtain ⟨a', h1, h2⟩ := hi_ge c1 d1 c2 d2 e h
        obtain ⟨a2, h3, h4⟩ := hi_ge d1 c1 d2 c2 (fun x => (e x).symm) h1
        rw [h] at h3
        cases h3
        rw [h1]
        congr 1
        grind
      | none =>
        cases q : d.h with
        | none => rfl
        | some a =>
          obtain ⟨a2, h3, h4⟩ := hi_ge d1 c1 d2 c2 (fun x => (e x).symm) q
          rw [h] at h3
          cases h3
    obtain ⟨v, w, h, a1, a2, a3, a4⟩ := two_in c2
    have e1 := e ((v - c.p) / c.f)
    have e2 := e ((w - c.p) / c.f)
    rw [ap_in c1 a1 a4] at e1
    rw [ap_in c1 a3 a2] at e2
    have g1 : bnd (d.f * ((v - c.p) / c.f) + d.p) d.l d.h = v := e1.symm
    have g2 : bnd (d.f * ((w - c.p) / c.f) + d.p) d.l d.h = w := e2.symm
    rw [← el, ← eh] at g1 g2
    have i1 : d.f * ((v - c.p) / c.f) + d.p = v := by
      revert g1 a1 a4
      generalize d.f * ((v - c.p) / c.f) + d.p = z
      cases c.l <;> cases c.h <;> simp only [bnd, ordS] <;> grind
    have i2 : d.f * ((w - c.p) / c.f) + d.p = w := by
      revert g2 a2 a3
      generalize d.f * ((w - c.p) / c.f) + d.p = z
      cases c.l <;> cases c.h <;> simp only [bnd, ordS] <;> grind
    have z1 := inv (p := c.p) (v := v) c1
    have z2 := inv (p := c.p) (v := w) c1
    generalize (v - c.p) / c.f = x at *
    generalize (w - c.p) / c.f = y at *
    have ne : x ≠ y := by intro q; subst q; grind
    have f1 : c.f * (x - y) = d.f * (x - y) := by grind
    have f2 : (c.f - d.f) * (x - y) = 0 := by grind
    have f3 : c.f = d.f := by
      rcases Rat.mul_eq_zero.mp f2 with q | q <;> grind
    have f4 : c.p = d.p := by rw [f3] at z1; grind
    obtain ⟨f, p, l, h⟩ := c
    obtain ⟨g, q, m, u⟩ := d
    dsimp only at *
    subst el eh f3 f4
    rfl
/-- chains of lists -/
def chL (cs : List Cl) : Cl := cs.foldl ch2 idC
def apL (cs : List Cl) (x : Rat) : Rat := cs.foldl (fun y c => ap c y) x
theorem ap_id (x : Rat) : ap idC x = x := by show (1 : Rat) * x + 0 = x; grind
theorem chF_nf : ∀ {cs : List Cl} {a : Cl}, NF a → (∀ c ∈ cs, NF c) → NF (cs.foldl ch2 a)
  | [], _, h, _ => h
  | c :: cs, a, h, hc => chF_nf (cs := cs) (ch2_nf h.wf (hc c (List.mem_cons_self ..)).wf) fun d hd => hc d (List.mem_cons_of_mem _ hd)
theorem chF_ap : ∀ {cs : List Cl} {a : Cl} (x : Rat), NF a → (∀ c ∈ cs, NF c) → ap (cs.foldl ch2 a) x = apL cs (ap a x)
  | [], _, _, _, _ => rfl
  | c :: cs, a, x, h, hc => by
    have n := (hc c (List.mem_cons_self ..)).wf
    rw [List.foldl_cons, chF_ap (cs := cs) x (ch2_nf h.wf n) fun d hd => hc d (List.mem_cons_of_mem _ hd), ap_ch2 h.wf n]
    rfl
theorem chL_nf {cs : List Cl} (h : ∀ c ∈ cs, NF c) : NF (chL cs) := chF_nf NF.id h
theorem chL_ap {cs : List Cl} (h : ∀ c ∈ cs, NF c) (x : Rat) : ap (chL cs) x = apL cs x := by
  unfold chL
  rw [chF_ap x NF.id h, ap_id]
theorem apL_app (a b : List Cl) (x : Rat) : apL (a ++ b) x = apL b (apL a x) := by unfold apL; rw [List.foldl_append]
theorem chL_ext {cs ds : List Cl} (h : ∀ c ∈ cs, NF c) (h2 : ∀ c ∈ ds, NF c) (e : ∀ x, apL cs x = apL ds x) : chL cs = chL ds :=
  nf_ext (chL_nf h) (chL_nf h2) fun x => by rw [chL_ap h, chL_ap h2, e]
theorem apL_mono : ∀ {cs : List Cl} {x y : Rat}, (∀ c ∈ cs, NF c) → x ≤ y → apL cs x ≤ apL cs y
  | [], _, _, _, e => e
  | c :: cs, x, y, h, e => apL_mono (cs := cs) (fun d hd => h d (List.mem_cons_of_mem _ hd)) (ap_mono (h c (List.mem_cons_self ..)).wf e)
def facL (cs : List Cl) : Rat := cs.foldl (fun r c => r * c.f) 1
theorem facF : ∀ (cs : List Cl) (r : Rat), cs.foldl (fun r c => r * c.f) r = r * facL cs
  | [], r => by show r = r * 1; grind
  | c :: cs, r => by
    unfold facL
    rw [List.foldl_cons, List.foldl_cons, facF cs, facF cs (1 * c.f)]
    grind
theorem facL_cons (c : Cl) (cs : List Cl) : facL (c :: cs) = c.f * facL cs := by
  show cs.foldl (fun r c => r * c.f) (1 * c.f) = _
  rw [facF]; grind
theorem facL_nn : ∀ {cs : List Cl}, (∀ c ∈ cs, NF c) → 0 ≤ facL cs
  | [], _ => by show (0 : Rat) ≤ 1; decide
  | c :: cs, h => by
    rw [facL_cons]
    exact nn (h c (List.mem_cons_self ..)).wf.1 (facL_nn fun d hd => h d (List.mem_cons_of_mem _ hd))
theorem apL_lip : ∀ {cs : List Cl} {x y : Rat}, (∀ c ∈ cs, NF c) → x ≤ y → apL cs y - apL cs x ≤ facL cs * (y - x)
  | [], x, y, _, e => by show y - x ≤ 1 * (y - x); grind
  | c :: cs, x, y, h, e => by
    have n := (h c (List.mem_cons_self ..)).wf
    have ht : ∀ d ∈ cs, NF d := fun d hd => h d (List.mem_cons_of_mem _ hd)
    have h1 := apL_lip (cs := cs) ht (ap_mono n e)
    have h2 := ap_lip n e
    have h3 := mulm (facL_nn ht) h2
    show apL cs (ap c y) - apL cs (ap c x) ≤ _
    rw [facL_cons]
    grind
end RT

/-! R3: fractions and clauses as data. -/
namespace RT
open L2 PySem PySem.Spec PyProof.Rows DL
def fD (q : Rat) : PyData := .tuple [.int q.num, .int (q.den : Int)]
def oD : Option Rat → PyData
  | none => .none
  | some q => fD q
def cD (c : Cl) : PyData := .tuple [fD c.f, fD c.p, oD c.l, oD c.h]
/-- both parts below 2^k -/
def Sz (k : Nat) (q : Rat) : Prop := q.num.natAbs < 2 ^ k ∧ q.den < 2 ^ k
def Szo (k : Nat) : Option Rat → Prop
  | none => True
  | some q => Sz k q
def Szc (k : Nat) (c : Cl) : Prop := Sz k c.f ∧ Sz k c.p ∧ Szo k c.l ∧ Szo k c.h
theorem Sz.up {j k : Nat} {q : Rat} (h : Sz j q) (e : j ≤ k) : Sz k q :=
  ⟨Nat.lt_of_lt_of_le h.1 (Nat.pow_le_pow_right (by decide) e), Nat.lt_of_lt_of_le h.2 (Nat.pow_le_pow_right (by decide) e)⟩
theorem Szo.up {j k : Nat} {q : Option Rat} (h : Szo j q) (e : j ≤ k) : Szo k q := by
  cases q with
  | none => trivial
  | some q => exact Sz.up h e
theorem Szc.up {j k : Nat} {c : Cl} (h : Szc j c) (e : j ≤ k) : Szc k c := ⟨h.1.up e, h.2.1.up e, h.2.2.1.up e, h.2.2.2.up e⟩
theorem den_pos (q : Rat) : (0 : Int) < (q.den : Int) := by have := q.den_nz; omega
/-! reduced -/
theorem nz_num (a : Int) (n : Nat) (h : n ≠ 0) : (Rat.normalize a n h).num = a / ((Nat.gcd a.natAbs n : Nat) : Int) := by rw [Rat.normalize_eq]
theorem nz_den (a : Int) (n : Nat) (h : n ≠ 0) : (Rat.normalize a n h).den = n / (Nat.gcd a.natAbs n) := by rw [Rat.normalize_eq]
theorem gp {a : Int} {n : Nat} (h : n ≠ 0) : (0 : Int) < ((Nat.gcd a.natAbs n : Nat) : Int) := Int.ofNat_lt.mpr (Nat.gcd_pos_of_pos_right _ (by omega))
theorem div_abs {a : Int} {g : Nat} (hg : 0 < (g : Int)) : (a / (g : Int)).natAbs ≤ a.natAbs := by
  rcases Int.lt_or_le a 0 with h | h
  · have h1 : (a / (g : Int)) < 0 := Int.ediv_neg_of_neg_of_pos h hg
    have h2 : a ≤ a / (g : Int) := by
      rw [Int.le_ediv_iff_mul_le hg]
      have h3 : 0 ≤ (-a) * ((g : Int) - 1) := Int.mul_nonneg (by omega) (by omega)
      rw [Int.mul_sub, Int.neg_mul, Int.mul_one] at h3
      omega
    omega
  · have h1 : 0 ≤ a / (g : Int) := Int.ediv_nonneg h (by omega)
    have h2 : a / (g : Int) ≤ a := Int.ediv_le_self _ h
    omega
theorem nz_sz {a : Int} {n : Nat} (h : n ≠ 0) {j k : Nat} (h1 : a.natAbs < 2 ^ k) (h2 : n < 2 ^ k) : Sz k (Rat.normalize a n h) := by
  refine ⟨?_, ?_⟩
  · rw [nz_num]
    exact Nat.lt_of_le_of_lt (div_abs (gp h)) h1
  · rw [nz_den]
    exact Nat.lt_of_le_of_lt (Nat.div_le_self _ _) h2
theorem mul_lt2 {a b : Int} {j k : Nat} (h : a.natAbs < 2 ^ j) (h2 : b.natAbs < 2 ^ k) : (a * b).natAbs < 2 ^ (j + k) := by
  rw [Int.natAbs_mul, Nat.pow_add]
  exact Nat.mul_lt_mul'' h h2
theorem add_lt2 {a b : Int} {k : Nat} (h : a.natAbs < 2 ^ k) (h2 : b.natAbs < 2 ^ k) : (a + b).natAbs < 2 ^ (k + 1) := by
  have := Int.natAbs_add_le a b
  rw [Nat.pow_succ]
  omega
theorem den_lt {q : Rat} {k : Nat} (h : Sz k q) : ((q.den : Int)).natAbs < 2 ^ k := by rw [Int.natAbs_natCast]; exact h.2
theorem Sz.add {j k : Nat} {p q : Rat} (h : Sz j p) (h2 : Sz k q) : Sz (j + k + 1) (p + q) := by
  rw [Rat.add_def]
  refine nz_sz (j := 0) _ (add_lt2 (mul_lt2 h.1 (den_lt h2)) ?_) (Nat.lt_of_lt_of_le (by rw [Nat.pow_add]; exact Nat.mul_lt_mul'' h.2 h2.2) (Nat.pow_le_pow_right (by decide) (by omega)))
  have := mul_lt2 h2.1 (den_lt h)
  rwa [Nat.add_comm] at this
theorem Sz.mul {j k : Nat} {p q : Rat} (h : Sz j p) (h2 : Sz k q) : Sz (j + k) (p * q) := by
  rw [Rat.mul_def]
  exact nz_sz (j := 0) _ (mul_lt2 h.1 h2.1) (by rw [Nat.pow_add]; exact Nat.mul_lt_mul'' h.2 h2.2)
/-! what the clauses' parts reach -/
theorem bnd_sz {k : Nat} {x : Rat} {l h : Option Rat} (hx : Sz k x) (hl : Szo k l) (hh : Szo k h) : Sz k (bnd x l h) := by
  unfold bnd
  cases l with
  | none =>
    cases h with
    | none => exact hx
    | some b => dsimp only; split <;> assumption
  | some a =>
    dsimp only
    split
    · exact hl
    · cases h with
      | none => exact hx
      | some b => dsimp only; split <;> assumption
theorem ap_sz {j k : Nat} {c : Cl} {x : Rat} (hc : Szc j c) (hx : Sz k x) : Sz (j + k + j + 1) (ap c x) :=
  bnd_sz ((hc.1.mul hx).add hc.2.1) (hc.2.2.1.up (by omega)) (hc.2.2.2.up (by omega))
theorem sz01 {k : Nat} (h : 1 ≤ k) : Sz k 0 := Sz.up (j := 1) ⟨by decide, by decide⟩ h
theorem sz11 {k : Nat} (h : 1 ≤ k) : Sz k 1 := Sz.up (j := 1) ⟨by decide, by decide⟩ h
theorem nrm_sz {k : Nat} {f p : Rat} {l h : Option Rat} (hk : 1 ≤ k) (hf : Sz k f) (hp : Sz k p) (hl : Szo k l) (hh : Szo k h) : Szc k (nrm f p l h) := by
  unfold nrm
  split
  · exact ⟨sz01 hk, bnd_sz hp hl hh, trivial, trivial⟩
  · cases l with
    | none => exact ⟨hf, hp, trivial, hh⟩
    | some a =>
      dsimp only
      split
      · exact ⟨sz01 hk, hl, trivial, trivial⟩
      · exact ⟨hf, hp, hl, hh⟩
theorem mv_sz {j k : Nat} {b : Option Rat} {c : Cl} {m : Option Rat} (hb : Szo j b) (hc : Szc k c) (hm : Szo k m) : Szo (k + j + k + 1) (mv b c m) := by
  cases b with
  | none => exact hm.up (by omega)
  | some x => exact ap_sz hc hb
theorem ch2_sz {j k : Nat} {a b : Cl} (ha : Szc j a) (hb : Szc k b) : Szc (k + j + k + 1) (ch2 a b) :=
  nrm_sz (by omega) ((ha.1.mul hb.1).up (by omega)) ((hb.1.mul ha.2.1).add hb.2.1) (mv_sz ha.2.2.1 hb hb.2.2.1) (mv_sz ha.2.2.2 hb hb.2.2.2)
theorem id_sz {k : Nat} (h : 1 ≤ k) : Szc k idC := ⟨sz11 h, sz01 h, trivial, trivial⟩
theorem chF_sz {s : Nat} : ∀ {cs : List Cl} {k : Nat} {a : Cl}, Szc k a → (∀ c ∈ cs, Szc s c) → Szc (k + (2 * s + 1) * cs.length) (cs.foldl ch2 a)
  | [], _, _, h, _ => h
  | c :: cs, k, a, h, hc => by
    have := chF_sz (s := s) (cs := cs) (ch2_sz h (hc c (List.mem_cons_self ..))) fun d hd => hc d (List.mem_cons_of_mem _ hd)
    rw [List.length_cons, List.foldl_cons]
    refine this.up (Nat.le_of_eq ?_)
    rw [Nat.mul_add, Nat.mul_one]
    omega
theorem apL_sz {s : Nat} : ∀ {cs : List Cl} {k : Nat} {x : Rat}, Sz k x → (∀ c ∈ cs, Szc s c) → Sz (k + (2 * s + 1) * cs.length) (apL cs x)
  | [], _, _, h, _ => h
  | c :: cs, k, x, h, hc => by
    have := apL_sz (s := s) (cs := cs) (ap_sz (hc c (List.mem_cons_self ..)) h) fun d hd => hc d (List.mem_cons_of_mem _ hd)
    rw [List.length_cons]
    refine Sz.up this (Nat.le_of_eq ?_)
    rw [Nat.mul_add, Nat.mul_one]
    omega
theorem ch2_id {c : Cl} (h : NF c) : ch2 idC c = c := nf_ext (ch2_nf NF.id.wf h.wf) h fun x => by rw [ap_ch2 NF.id.wf h.wf, ap_id]
theorem chL_cons {c : Cl} {cs : List Cl} (h : NF c) : chL (c :: cs) = cs.foldl ch2 c := by
  unfold chL
  rw [List.foldl_cons, ch2_id h]
theorem chL_sz {s n : Nat} {cs : List Cl} (hs : ∀ c ∈ cs, Szc s c) (hn : ∀ c ∈ cs, NF c) (h1 : 1 ≤ s) (hl : cs.length ≤ n + 1) : Szc (s + (2 * s + 1) * n) (chL cs) := by
  cases cs with
  | nil => exact id_sz (by omega)
  | cons c cs =>
    rw [chL_cons (hn c (List.mem_cons_self ..))]
    refine (chF_sz (s := s) (hs c (List.mem_cons_self ..)) fun d hd => hs d (List.mem_cons_of_mem _ hd)).up ?_
    have : (2 * s + 1) * cs.length ≤ (2 * s + 1) * n := Nat.mul_le_mul_left _ (by rw [List.length_cons] at hl; omega)
    omega
/-! comparisons -/
theorem rat_ext {p q : Rat} : (p.num = q.num ∧ (p.den : Int) = (q.den : Int)) ↔ p = q :=
  ⟨fun ⟨a, b⟩ => Rat.ext a (Int.ofNat_inj.mp b), fun h => by subst h; exact ⟨rfl, rfl⟩⟩
theorem eqv_f (p q : Rat) : PyData.eqv (fD p) (fD q) = decide (p = q) := by
  unfold fD
  simp only [PyData.eqv, PyData.eqvAll, Bool.and_true]
  rw [show (p.num == q.num) = decide (p.num = q.num) from rfl, show ((p.den : Int) == (q.den : Int)) = decide ((p.den : Int) = (q.den : Int)) from rfl, ← Bool.decide_and]
  exact decide_eq_decide.mpr rat_ext
theorem eqv_o (p q : Option Rat) : PyData.eqv (oD p) (oD q) = decide (p = q) := by
  cases p <;> cases q
  · rfl
  · rfl
  · rfl
  · rw [oD, oD, eqv_f]
    exact decide_eq_decide.mpr ⟨fun h => by rw [h], fun h => by cases h; rfl⟩
theorem eqv_c (a b : Cl) : PyData.eqv (cD a) (cD b) = decide (a = b) := by
  unfold cD
  simp only [PyData.eqv, PyData.eqvAll, Bool.and_true, eqv_f, eqv_o, ← Bool.decide_and]
  refine decide_eq_decide.mpr ⟨fun ⟨h1, h2, h3, h4⟩ => ?_, fun h => by subst h; exact ⟨rfl, rfl, rfl, rfl⟩⟩
  obtain ⟨f, p, l, h⟩ := a
  dsimp only at *
  subst h1 h2 h3 h4
  rfl
theorem shaped_f (q : Rat) : SeqAt.shaped (fD q) = true := rfl
theorem shaped_o (q : Option Rat) : SeqAt.shaped (oD q) = true := by cases q <;> rfl
theorem shaped_c (c : Cl) : SeqAt.shaped (cD c) = true := by
  obtain ⟨f, p, l, h⟩ := c
  cases l <;> cases h <;> rfl
section
variable {p q : Rat} {a b : Cl} {l h : Option Rat}
theorem g_eqf : gEq (fD p) (fD q) = some (.fz (.bool (decide (p = q)))) := by
  have e : gEq (fD p) (fD q) = gEq0 (fD p) (fD q) := rfl
  rw [e, gEq0, shaped_f, shaped_f, eqv_f]; rfl
theorem g_nef : gNe (fD p) (fD q) = some (.fz (.bool (!decide (p = q)))) := by
  have e : gNe (fD p) (fD q) = gNe0 (fD p) (fD q) := rfl
  rw [e, gNe0, shaped_f, shaped_f, eqv_f]; rfl
theorem g_eqo : gEq (oD l) (oD h) = some (.fz (.bool (decide (l = h)))) := by
  have : gEq (oD l) (oD h) = gEq0 (oD l) (oD h) := by cases l <;> cases h <;> rfl
  rw [this, gEq0, shaped_o, shaped_o, eqv_o]; rfl
theorem g_eqc : gEq (cD a) (cD b) = some (.fz (.bool (decide (a = b)))) := by
  have e : gEq (cD a) (cD b) = gEq0 (cD a) (cD b) := rfl
  rw [e, gEq0, shaped_c, shaped_c, eqv_c]; rfl
theorem g_nec : gNe (cD a) (cD b) = some (.fz (.bool (!decide (a = b)))) := by
  have e : gNe (cD a) (cD b) = gNe0 (cD a) (cD b) := rfl
  rw [e, gNe0, shaped_c, shaped_c, eqv_c]; rfl
theorem g_isf : gIs (fD p) .none = some (.fz (.bool false)) := rfl
theorem g_isNotf : gIsNot (fD p) .none = some (.fz (.bool true)) := rfl
theorem g_isn : gIs .none .none = some (.fz (.bool true)) := rfl
theorem g_isNotn : gIsNot .none .none = some (.fz (.bool false)) := rfl
theorem t_2 {d e f : PyData} {ds : List PyData} : gIx (.tuple (d :: e :: f :: ds)) (.int 2) = some (.fz f) := ix_tup (by decide) rfl
theorem t_3 {d e f k : PyData} {ds : List PyData} : gIx (.tuple (d :: e :: f :: k :: ds)) (.int 3) = some (.fz k) := ix_tup (by decide) rfl
theorem f_0 : gIx (fD p) (.int 0) = some (.fz (.int p.num)) := t_0
theorem f_1 : gIx (fD p) (.int 1) = some (.fz (.int p.den)) := t_1
theorem c_0 : gIx (cD a) (.int 0) = some (.fz (fD a.f)) := t_0
theorem c_1 : gIx (cD a) (.int 1) = some (.fz (fD a.p)) := t_1
theorem c_2 : gIx (cD a) (.int 2) = some (.fz (oD a.l)) := t_2
theorem c_3 : gIx (cD a) (.int 3) = some (.fz (oD a.h)) := t_3
end
theorem lg {a : Int} {k : Nat} (hk : 0 < k) (h : a.natAbs < 2 ^ k) : a.natAbs.log2 < k := log2_lt' hk h
theorem gm {a b : Int} (h : a.natAbs < 2 ^ 4000) (h2 : b.natAbs < 2 ^ 4000) : gMul (.int a) (.int b) = some (.fz (.int (a * b))) := g_mul (by
  have := lg (by decide) h
  have := lg (by decide) h2
  omega)
end RT

/-! H1: runs put together. -/
namespace DL
open L2 PySem PySem.Spec PyProof.Rows
theorem seq_ok {m1 m2 : SF} {ρ ρ1 : PSt} {o : Option Out} (h1 : m1 ρ = some (.nx ρ1)) (h2 : m2 ρ1 = o) : seqF m1 m2 ρ = o := by rw [e_seq, h1, e_kseq, h2]
theorem fnE {np n : Nat} {m : SF} {as : List S} {v : PyData} {ρ : PSt} (hl : as.length = np) (h : m (entS n as) = some (.rt (.fz v) ρ)) (ho : outsF [] as ρ = some as) : fnF np n [] m as = some (.fz v, as) := by
  rw [e_fn, if_pos hl, h, e_kfn, ho, e_kfn2]
theorem for_ok {it : IF} {g : GF} {m : SF} {ρ ρ1 ρ2 : PSt} {ds : List PyData} (h : it ρ = some (ds, ρ1)) (h2 : loopF g m ds ρ1 = some (.nx ρ2)) : forF it g m ρ = some (.nx ρ2) := by
  rw [e_for, h, e_kfor, h2]
theorem if_no {c : TF} {m1 : SF} {ρ : PSt} (h : c ρ = some (false, ρ)) : ifSF c m1 skipF ρ = some (.nx ρ) := by rw [e_if, h, e_ifF, e_skip]
theorem comp_ok {it : IF} {q : GF} {t : TF} {f : EF} {v : Nat} {ρ ρ1 ρ2 : PSt} {js ds : List PyData} (h : it ρ = some (js, ρ1)) (hw : wipeS ρ1 [v] = ρ1) (h2 : compL q t f [v] js ρ1 [] = some (ds, ρ2)) : compF it q t f [v] ρ = some (.ol ds, ρ2) := by
  rw [e_comp, h, e_lc, hw, h2, e_lc2]
theorem it_e {A : FF} {ds : List PyData} {ρ : PSt} (hA : A [] = some (.ol ds, [])) : itI (callF none A nilF nilF) ρ = some (ds, ρ) := by
  rw [e_it, e_call, e_nil, e_c1, e_nil, e_c2]
  show kI1 (kC3 none A [] (some ([], ρ))) = _
  rw [e_c3, hA]
  rfl
theorem kr1_ok {ρ : PSt} {L : Int} (sm : smallI L = true) : kR1 (some ([.fz (.int L)], ρ)) = some (rngD 0 L.toNat, ρ) := by
  rw [e_kr1, if_pos sm]
theorem rng_mem {n : Nat} {j : PyData} (h : j ∈ rngD 0 n) : ∃ i : Nat, j = .int (i : Int) ∧ i < n := by
  unfold rngD at h
  obtain ⟨i, hi, e⟩ := List.mem_map.mp h
  exact ⟨i, by rw [← e, Int.zero_add], List.mem_range.mp hi⟩
theorem set_ok {f : EF} {i : Nat} {ρ ρ1 : PSt} {d : PyData} (h : f ρ = some (.fz d, ρ1)) : setF i f ρ = some (.nx (ρ1.set i (some (.fz d)))) := by rw [e_set, h, e_kset]
theorem ret_ok {f : EF} {ρ ρ1 : PSt} {d : PyData} (h : f ρ = some (.fz d, ρ1)) : retF f ρ = some (.rt (.fz d) ρ1) := by rw [e_ret, h, e_kret]
theorem j_cons {f : EF} {g : JF} {acc y : Str} {ρ ρ1 : PSt} (h : f ρ = some (.fz (.str y), ρ1)) (hl : acc.length + y.length ≤ 100000) : jCons f g acc ρ = g (acc ++ y) ρ1 := by
  unfold jCons
  rw [h, Option.bind_some]
  show (if okN (acc ++ y).length then g (acc ++ y) ρ1 else none) = _
  rw [if_pos]
  refine decide_eq_true ?_
  rw [TL.len_tl, TL.tl_append, List.length_append, ← TL.len_tl, ← TL.len_tl]
  exact hl
theorem j_nil {acc : Str} {ρ : PSt} : jNil acc ρ = some (acc, ρ) := rfl
theorem fmt_ok {f : EF} {y : Str} {ρ ρ1 : PSt} (h : f ρ = some (.fz (.str y), ρ1)) (hl : y.length ≤ 100000) : fmtF f ρ = some (.fz (.str y), ρ1) := by
  unfold fmtF
  rw [h, Option.bind_some]
  show (if okN y.length then some (S.fz (.str y), ρ1) else none) = _
  rw [if_pos (show okN y.length = true from decide_eq_true hl)]
theorem fst_ok {g : JF} {z : Str} {ρ ρ1 : PSt} (h : g Str.empty ρ = some (z, ρ1)) : fstF g ρ = some (.fz (.str z), ρ1) := by
  unfold fstF
  rw [h]
  rfl
theorem andV_ok {f1 f2 : EF} {ρ ρ1 : PSt} {r : Option (S × PSt)} (h1 : f1 ρ = some (.fz (.bool true), ρ1)) (h2 : f2 ρ1 = r) : andVF f1 f2 ρ = r := by rw [e_andV, h1, e_andVT, h2]
theorem ptn_ok {f g : EF} {y z : Str} {ρ ρ1 ρ2 : PSt} (h1 : f ρ = some (.fz (.str y), ρ1)) (h2 : g ρ1 = some (.fz (.str z), ρ2)) (hl : y.length ≤ 100000) (hz : (z.length == 0) = false) : ptnF f g ρ = some (.fz (parD y z), ρ2) := by
  unfold ptnF
  rw [h1, Option.bind_some]
  show ((some y).bind fun y => (g ρ1).bind fun q => (strS q.1).bind fun z => _) = _
  rw [Option.bind_some, h2, Option.bind_some]
  show (if okN y.length && !(z.length == 0) then some (S.fz (parD y z), ρ2) else none) = _
  rw [show okN y.length = true from decide_eq_true hl, hz]
  rfl
theorem rmp_ok {f g : EF} {y z : Str} {ρ ρ1 ρ2 : PSt} (h1 : f ρ = some (.fz (.str y), ρ1)) (h2 : g ρ1 = some (.fz (.str z), ρ2)) (hl : y.length ≤ 100000) : rmpF f g ρ = some (.fz (.str (Txt.removeprefix y z)), ρ2) := by
  unfold rmpF
  rw [h1, Option.bind_some]
  show ((some y).bind fun y => (g ρ1).bind fun q => (strS q.1).bind fun z => _) = _
  rw [Option.bind_some, h2, Option.bind_some]
  show (if okN y.length then some (S.fz (.str (Txt.removeprefix y z)), ρ2) else none) = _
  rw [show okN y.length = true from decide_eq_true hl]
  rfl
theorem if_yes {c : TF} {m1 m2 : SF} {ρ ρ1 : PSt} {o : Option Out} (h : c ρ = some (true, ρ1)) (h2 : m1 ρ1 = o) : ifSF c m1 m2 ρ = o := by rw [e_if, h, e_ifT, h2]
theorem seq_rt {m1 m2 : SF} {ρ ρ1 : PSt} {s : S} (h1 : m1 ρ = some (.rt s ρ1)) : seqF m1 m2 ρ = some (.rt s ρ1) := by rw [e_seq, h1, e_kseqR]
end DL

set_option maxHeartbeats 0
namespace LW
open L2 PySem PySem.Spec PyProof.Rows DL
/-! ### the text -/
def top (i : Nat) : Stmt := PySem.Challenge.pw_stackorder_k08_whole_fractions.main.body.getD i (.Pass ⟨0, 0, 0, 0⟩)
abbrev s_fraction : Stmt := top 2
abbrev N_fraction : List Str := ["numerator", "denominator", "common"]
theorem sc_fraction : FnScope N_fraction ["numerator", "denominator"] (defScope s_fraction) := ⟨rfl, rfl, rfl, by decide +kernel, rfl, by decide +kernel, by decide +kernel⟩
abbrev s_fraction_sum : Stmt := top 3
abbrev N_fraction_sum : List Str := ["fractions", "total", "numerator", "denominator"]
theorem sc_fraction_sum : FnScope N_fraction_sum ["fractions"] (defScope s_fraction_sum) := ⟨rfl, rfl, rfl, by decide +kernel, rfl, by decide +kernel, by decide +kernel⟩
abbrev s_fraction_product : Stmt := top 4
abbrev N_fraction_product : List Str := ["fractions", "total", "numerator", "denominator"]
theorem sc_fraction_product : FnScope N_fraction_product ["fractions"] (defScope s_fraction_product) := ⟨rfl, rfl, rfl, by decide +kernel, rfl, by decide +kernel, by decide +kernel⟩
abbrev s_is_integer : Stmt := top 16
abbrev N_is_integer : List Str := ["thing"]
theorem sc_is_integer : FnScope N_is_integer ["thing"] (defScope s_is_integer) := ⟨rfl, rfl, rfl, by decide +kernel, rfl, by decide +kernel, by decide +kernel⟩
abbrev s_is_row : Stmt := top 17
abbrev N_is_row : List Str := ["thing", "size"]
theorem sc_is_row : FnScope N_is_row ["thing", "size"] (defScope s_is_row) := ⟨rfl, rfl, rfl, by decide +kernel, rfl, by decide +kernel, by decide +kernel⟩
abbrev s_is_fraction : Stmt := top 18
abbrev N_is_fraction : List Str := ["thing"]
theorem sc_is_fraction : FnScope N_is_fraction ["thing"] (defScope s_is_fraction) := ⟨rfl, rfl, rfl, by decide +kernel, rfl, by decide +kernel, by decide +kernel⟩
abbrev s__law_feed : Stmt := top 25
abbrev N__law_feed : List Str := ["_law_script"]
theorem sc__law_feed : FnScope N__law_feed ["_law_script"] (defScope s__law_feed) := ⟨rfl, rfl, rfl, by decide +kernel, rfl, by decide +kernel, by decide +kernel⟩
abbrev s__law_draw : Stmt := top 26
abbrev N__law_draw : List Str := ["_law_feed_here", "_law_many", "_law_digit", "_law_at", "_law_cell", "_law_mixed"]
theorem sc__law_draw : FnScope N__law_draw ["_law_feed_here", "_law_many"] (defScope s__law_draw) := ⟨rfl, rfl, rfl, by decide +kernel, rfl, by decide +kernel, by decide +kernel⟩
abbrev s__law_sizes : Stmt := top 27
abbrev N__law_sizes : List Str := ["_law_some"]
theorem sc__law_sizes : FnScope N__law_sizes [] (defScope s__law_sizes) := ⟨rfl, rfl, rfl, by decide +kernel, rfl, by decide +kernel, by decide +kernel⟩
abbrev s__law_size : Stmt := top 28
abbrev N__law_size : List Str := ["_law_feed_here"]
theorem sc__law_size : FnScope N__law_size ["_law_feed_here"] (defScope s__law_size) := ⟨rfl, rfl, rfl, by decide +kernel, rfl, by decide +kernel, by decide +kernel⟩
abbrev s__law_three_right : Stmt := top 29
abbrev N__law_three_right : List Str := ["_law_a", "_law_b", "_law_c", "_law_total", "_law_product", "_law_one"]
theorem sc__law_three_right : FnScope N__law_three_right ["_law_a", "_law_b", "_law_c"] (defScope s__law_three_right) := ⟨rfl, rfl, rfl, by decide +kernel, rfl, by decide +kernel, by decide +kernel⟩
abbrev s_compared : Stmt := top 5
abbrev N_compared : List Str := ["one", "other", "left", "right"]
theorem sc_compared : FnScope N_compared ["one", "other"] (defScope s_compared) := ⟨rfl, rfl, rfl, by decide +kernel, rfl, by decide +kernel, by decide +kernel⟩
abbrev s__law_order_right : Stmt := top 30
abbrev N__law_order_right : List Str := ["_law_a", "_law_b", "_law_c", "_law_told"]
theorem sc__law_order_right : FnScope N__law_order_right ["_law_a", "_law_b", "_law_c"] (defScope s__law_order_right) := ⟨rfl, rfl, rfl, by decide +kernel, rfl, by decide +kernel, by decide +kernel⟩
abbrev s_integer_text : Stmt := top 9
abbrev N_integer_text : List Str := ["integer", "chunks"]
theorem sc_integer_text : FnScope N_integer_text ["integer"] (defScope s_integer_text) := ⟨rfl, rfl, rfl, by decide +kernel, rfl, by decide +kernel, by decide +kernel⟩
abbrev s_fraction_text : Stmt := top 10
abbrev N_fraction_text : List Str := ["fraction", "numerator", "denominator"]
theorem sc_fraction_text : FnScope N_fraction_text ["fraction"] (defScope s_fraction_text) := ⟨rfl, rfl, rfl, by decide +kernel, rfl, by decide +kernel, by decide +kernel⟩
abbrev s_are_digits : Stmt := top 21
abbrev N_are_digits : List Str := ["text", "digit"]
theorem sc_are_digits : FnScope N_are_digits ["text"] (defScope s_are_digits) := ⟨rfl, rfl, rfl, by decide +kernel, rfl, by decide +kernel, by decide +kernel⟩
abbrev s_fraction_or_none : Stmt := top 22
abbrev N_fraction_or_none : List Str := ["text", "numerator", "slash", "denominator", "value"]
theorem sc_fraction_or_none : FnScope N_fraction_or_none ["text"] (defScope s_fraction_or_none) := ⟨rfl, rfl, rfl, by decide +kernel, rfl, by decide +kernel, by decide +kernel⟩
abbrev s_fraction_read : Stmt := top 23
abbrev N_fraction_read : List Str := ["text", "value"]
theorem sc_fraction_read : FnScope N_fraction_read ["text"] (defScope s_fraction_read) := ⟨rfl, rfl, rfl, by decide +kernel, rfl, by decide +kernel, by decide +kernel⟩
abbrev s__law_text_right : Stmt := top 31
abbrev N__law_text_right : List Str := ["_law_a", "_law_b", "_law_words", "_law_one", "_law_word"]
theorem sc__law_text_right : FnScope N__law_text_right ["_law_a", "_law_b"] (defScope s__law_text_right) := ⟨rfl, rfl, rfl, by decide +kernel, rfl, by decide +kernel, by decide +kernel⟩
abbrev s_law : Stmt := top 32
abbrev N_law : List Str := ["_law_script", "_law_feed_here", "_law_k", "_law_a", "_law_b", "_law_c", "_law_one", "_law_other", "_law_third", "_law_top", "_law_under"]
theorem sc_law : FnScope N_law ["_law_script"] (defScope s_law) := ⟨rfl, rfl, rfl, by decide +kernel, rfl, by decide +kernel, by decide +kernel⟩
/-! ### the defs as functions -/
def m_fraction (r : FF) : SF :=
    seqF (ifSF (tstF (opF gLt (varF 1) (cF (.int 0)))) (retF (callF none (kwF 2 0 [(0, 0), (0, 1)] [.fz (.int 1)] (r)) (consF (negF (varF 0)) (consF (negF (varF 1)) (nilF))) (nilF))) (skipF))
    (seqF (setF 2 (clF gGcd (consF (varF 0) (consF (varF 1) (nilF)))))
    (retF (tupF (consF (opF gDiv (varF 0) (varF 2)) (consF (opF gDiv (varF 1) (varF 2)) (nilF))))))
def h_fraction : Nat → FF
  | 0 => fun _ => none
  | k + 1 => fnF 2 3 (mdL none) (m_fraction (h_fraction k))
theorem hl_fraction : ∀ (n : Nat) (as : List S) (r : S) (os : List S), h_fraction n as = some (r, os) → as.length = 2
  | 0, _, _, _, e => nomatch e
  | n + 1, _, _, _, e => fnF_len e
def g_fraction : FF := h_fraction 2
def g_fraction_2 : FF := (kwF 2 0 [(0, 0), (0, 1)] [.fz (.int 1)] (g_fraction))
def m_fraction_sum : SF :=
    seqF (setF 1 (tupF (consF (cF (.int 0)) (consF (cF (.int 1)) (nilF)))))
    (seqF (forF (itI (varF 0)) (gTp (gsCons (gNm 2) (gsCons (gNm 3) (gsNil)))) (setF 1 (callF none g_fraction_2 (consF (opF gAdd (opF gMul (opF gIx (varF 1) (cF (.int 0))) (varF 3)) (opF gMul (varF 2) (opF gIx (varF 1) (cF (.int 1))))) (consF (opF gMul (opF gIx (varF 1) (cF (.int 1))) (varF 3)) (nilF))) (nilF))))
    (retF (varF 1)))
def g_fraction_sum : FF := fnF 1 4 [] m_fraction_sum
def g_fraction_sum_s : FF := starF g_fraction_sum
def m_fraction_product : SF :=
    seqF (setF 1 (tupF (consF (cF (.int 1)) (consF (cF (.int 1)) (nilF)))))
    (seqF (forF (itI (varF 0)) (gTp (gsCons (gNm 2) (gsCons (gNm 3) (gsNil)))) (setF 1 (callF none g_fraction_2 (consF (opF gMul (opF gIx (varF 1) (cF (.int 0))) (varF 2)) (consF (opF gMul (opF gIx (varF 1) (cF (.int 1))) (varF 3)) (nilF))) (nilF))))
    (retF (varF 1)))
def g_fraction_product : FF := fnF 1 4 [] m_fraction_product
def g_fraction_product_s : FF := starF g_fraction_product
def m_is_integer : SF :=
    retF (andVF (isiF "int" (varF 0)) (notVF (isiF "bool" (varF 0))))
def g_is_integer : FF := fnF 1 1 (mdL none) m_is_integer
def g_is_integer_1 : FF := g_is_integer
def m_is_row : SF :=
    retF (andVF (isiF "tuple" (varF 0)) (opF gEq (clF gLen (consF (varF 0) (nilF))) (varF 1)))
def g_is_row : FF := fnF 2 2 (mdL none) m_is_row
def g_is_row_2 : FF := g_is_row
def m_is_fraction : SF :=
    seqF (ifSF (orF (notF (tstF (callF none g_is_row_2 (consF (varF 0) (consF (cF (.int 2)) (nilF))) (nilF)))) (orF (notF (tstF (callF none g_is_integer_1 (consF (opF gIx (varF 0) (cF (.int 0))) (nilF)) (nilF)))) (notF (tstF (callF none g_is_integer_1 (consF (opF gIx (varF 0) (cF (.int 1))) (nilF)) (nilF)))))) (retF (cF (.bool false))) (skipF))
    (retF (andVF (opF gGe (opF gIx (varF 0) (cF (.int 1))) (cF (.int 1))) (opF gEq (clF gGcd (consF (opF gIx (varF 0) (cF (.int 0))) (consF (opF gIx (varF 0) (cF (.int 1))) (nilF)))) (cF (.int 1)))))
def g_is_fraction : FF := fnF 1 1 (mdL none) m_is_fraction
def g_is_fraction_1 : FF := g_is_fraction
def m__law_feed : SF :=
    retF (dispF (kCons "cells" (clF gList (consF (slF (varF 0) (noP) (someP (cF (.int 63)))) (nilF))) (kCons "at" (cF (.int 0)) (kCons "left" (cF (.int 0)) (kCons "count" (cF (.int 0)) (kNil))))))
def g__law_feed : FF := fnF 1 1 (mdL none) m__law_feed
def g__law_feed_1 : FF := g__law_feed
def m__law_draw : SF :=
    seqF (dputF (varF 0) (cF (.str "count")) (opF gAdd (dgetF (varF 0) (cF (.str "count"))) (cF (.int 1))))
    (seqF (ifSF (tstF (opF gGt (dgetF (varF 0) (cF (.str "left"))) (cF (.int 0)))) (seqF (setF 2 (opF gMod (dgetF (varF 0) (cF (.str "left"))) (varF 1)))
    (seqF (dputF (varF 0) (cF (.str "left")) (opF gDiv (dgetF (varF 0) (cF (.str "left"))) (varF 1)))
    (retF (varF 2)))) (skipF))
    (seqF (setF 3 (dgetF (varF 0) (cF (.str "at"))))
    (seqF (dputF (varF 0) (cF (.str "at")) (opF gAdd (varF 3) (cF (.int 1))))
    (seqF (setF 4 (ifF (tstF (opF gNe (dgetF (varF 0) (cF (.str "cells"))) (lstF (nilF)))) (opF gIx (dgetF (varF 0) (cF (.str "cells"))) (opF gMod (varF 3) (clF gLen (consF (dgetF (varF 0) (cF (.str "cells"))) (nilF))))) (cF (.int 53))))
    (seqF (ifSF (andF (tstF (opF gGe (varF 4) (opF gPow (cF (.int 10)) (cF (.int 18))))) (tstF (opF gLt (varF 3) (clF gLen (consF (dgetF (varF 0) (cF (.str "cells"))) (nilF)))))) (seqF (dputF (varF 0) (cF (.str "left")) (opF gDiv (varF 4) (varF 1)))
    (retF (opF gMod (varF 4) (varF 1)))) (skipF))
    (seqF (setF 5 (opF gMod (opF gAdd (opF gAdd (opF gMod (varF 4) (cF (.int 1000000453))) (opF gMul (cF (.int 150011)) (dgetF (varF 0) (cF (.str "count"))))) (cF (.int 97))) (cF (.int 2147483423))))
    (seqF (setF 5 (opF gMod (opF gAdd (opF gAdd (opF gMul (varF 5) (varF 5)) (opF gMul (cF (.int 3700129)) (dgetF (varF 0) (cF (.str "count"))))) (cF (.int 67))) (cF (.int 2147483399))))
    (retF (opF gMod (opF gDiv (opF gMod (opF gAdd (opF gMul (varF 5) (varF 5)) (opF gMul (cF (.int 79)) (varF 5))) (cF (.int 2147483353))) (cF (.int 16))) (varF 1))))))))))
def g__law_draw : FF := fnF 2 6 (mdL (some 0)) m__law_draw
def g__law_draw_2 : FF := g__law_draw
def m__law_sizes : SF :=
    seqF (setF 0 (lstF (consF (tupF (consF (cF (.int 0)) (consF (cF (.int 1)) (nilF)))) (consF (tupF (consF (cF (.int 1)) (consF (cF (.int 1)) (nilF)))) (consF (tupF (consF (negF (cF (.int 1))) (consF (cF (.int 1)) (nilF)))) (consF (tupF (consF (cF (.int 2)) (consF (cF (.int 1)) (nilF)))) (consF (tupF (consF (negF (cF (.int 2))) (consF (cF (.int 1)) (nilF)))) (consF (tupF (consF (cF (.int 5)) (consF (cF (.int 1)) (nilF)))) (consF (tupF (consF (negF (cF (.int 5))) (consF (cF (.int 1)) (nilF)))) (consF (tupF (consF (cF (.int 10)) (consF (cF (.int 1)) (nilF)))) (consF (tupF (consF (negF (cF (.int 10))) (consF (cF (.int 1)) (nilF)))) (consF (tupF (consF (cF (.int 20)) (consF (cF (.int 1)) (nilF)))) (consF (tupF (consF (cF (.int 50)) (consF (cF (.int 1)) (nilF)))) (consF (tupF (consF (cF (.int 100)) (consF (cF (.int 1)) (nilF)))) (nilF)))))))))))))))
    (retF (opF gAdd (varF 0) (lstF (consF (tupF (consF (negF (cF (.int 100))) (consF (cF (.int 1)) (nilF)))) (consF (tupF (consF (cF (.int 1)) (consF (cF (.int 2)) (nilF)))) (consF (tupF (consF (negF (cF (.int 1))) (consF (cF (.int 2)) (nilF)))) (consF (tupF (consF (cF (.int 3)) (consF (cF (.int 2)) (nilF)))) (consF (tupF (consF (negF (cF (.int 7))) (consF (cF (.int 2)) (nilF)))) (consF (tupF (consF (cF (.int 2)) (consF (cF (.int 3)) (nilF)))) (consF (tupF (consF (cF (.int 11)) (consF (cF (.int 10)) (nilF)))) (consF (tupF (consF (cF (.int 9)) (consF (cF (.int 10)) (nilF)))) (consF (tupF (consF (cF (.int 9999)) (consF (cF (.int 1)) (nilF)))) (consF (tupF (consF (negF (cF (.int 9999))) (consF (cF (.int 1)) (nilF)))) (nilF))))))))))))))
def g__law_sizes : FF := fnF 0 1 (mdL none) m__law_sizes
def g__law_sizes_0 : FF := g__law_sizes
def m__law_size : SF :=
    retF (opF gIx (callF none g__law_sizes_0 (nilF) (nilF)) (callF (some 0) g__law_draw_2 (consF (varF 0) (consF (cF (.int 22)) (nilF))) (nilF)))
def g__law_size : FF := fnF 1 1 (mdL (some 0)) m__law_size
def g__law_size_1 : FF := g__law_size
def m__law_three_right : SF :=
    seqF (parF 3 4 (consF (callF none g_fraction_sum_s (consF (varF 0) (consF (varF 1) (nilF))) (nilF)) (consF (callF none g_fraction_product_s (consF (varF 0) (consF (varF 1) (nilF))) (nilF)) (nilF))))
    (seqF (ifSF (orF (tstF (opF gNe (callF none g_fraction_sum_s (consF (varF 1) (consF (varF 0) (nilF))) (nilF)) (varF 3))) (tstF (opF gNe (callF none g_fraction_product_s (consF (varF 1) (consF (varF 0) (nilF))) (nilF)) (varF 4)))) (retF (cF (.bool false))) (skipF))
    (seqF (ifSF (notF (tstF (chF gEq gEq (callF none g_fraction_sum_s (consF (varF 3) (consF (varF 2) (nilF))) (nilF)) (callF none g_fraction_sum_s (consF (varF 0) (consF (callF none g_fraction_sum_s (consF (varF 1) (consF (varF 2) (nilF))) (nilF)) (nilF))) (nilF)) (callF none g_fraction_sum_s (consF (varF 0) (consF (varF 1) (consF (varF 2) (nilF)))) (nilF))))) (retF (cF (.bool false))) (skipF))
    (seqF (ifSF (tstF (opF gNe (callF none g_fraction_product_s (consF (varF 4) (consF (varF 2) (nilF))) (nilF)) (callF none g_fraction_product_s (consF (varF 2) (consF (varF 1) (consF (varF 0) (nilF)))) (nilF)))) (retF (cF (.bool false))) (skipF))
    (seqF (ifSF (tstF (opF gNe (callF none g_fraction_product_s (consF (varF 3) (consF (varF 2) (nilF))) (nilF)) (callF none g_fraction_sum_s (consF (callF none g_fraction_product_s (consF (varF 0) (consF (varF 2) (nilF))) (nilF)) (consF (callF none g_fraction_product_s (consF (varF 1) (consF (varF 2) (nilF))) (nilF)) (nilF))) (nilF)))) (retF (cF (.bool false))) (skipF))
    (seqF (ifSF (orF (tstF (opF gNe (callF none g_fraction_sum_s (consF (varF 0) (consF (callF none g_fraction_sum_s (nilF) (nilF)) (nilF))) (nilF)) (varF 0))) (tstF (opF gNe (callF none g_fraction_product_s (consF (varF 0) (consF (callF none g_fraction_product_s (nilF) (nilF)) (nilF))) (nilF)) (varF 0)))) (retF (cF (.bool false))) (skipF))
    (seqF (ifSF (orF (tstF (opF gNe (callF none g_fraction_sum_s (consF (varF 0) (consF (callF none g_fraction_product_s (consF (tupF (consF (negF (cF (.int 1))) (consF (cF (.int 1)) (nilF)))) (consF (varF 0) (nilF))) (nilF)) (nilF))) (nilF)) (tupF (consF (cF (.int 0)) (consF (cF (.int 1)) (nilF)))))) (tstF (opF gNe (callF none g_fraction_product_s (consF (varF 0) (consF (tupF (consF (cF (.int 0)) (consF (cF (.int 1)) (nilF)))) (nilF))) (nilF)) (tupF (consF (cF (.int 0)) (consF (cF (.int 1)) (nilF))))))) (retF (cF (.bool false))) (skipF))
    (seqF (ifSF (andF (tstF (chF gLt gLt (cF (.int 0)) (clF gAbs (consF (opF gIx (varF 0) (cF (.int 0))) (nilF))) (cF (.int 101)))) (tstF (opF gNe (callF none g_fraction_product_s (consF (varF 0) (consF (callF none g_fraction_2 (consF (opF gIx (varF 0) (cF (.int 1))) (consF (opF gIx (varF 0) (cF (.int 0))) (nilF))) (nilF)) (nilF))) (nilF)) (tupF (consF (cF (.int 1)) (consF (cF (.int 1)) (nilF))))))) (retF (cF (.bool false))) (skipF))
    (retF (opF gEq (compF (itI (tupF (consF (varF 3) (consF (varF 4) (consF (callF none g_fraction_sum_s (consF (varF 0) (consF (varF 1) (consF (varF 2) (nilF)))) (nilF)) (nilF)))))) (gNm 5) (notF (tstF (callF none g_is_fraction_1 (consF (varF 5) (nilF)) (nilF)))) (varF 5) [5]) (lstF (nilF)))))))))))
def g__law_three_right : FF := fnF 3 6 (mdL none) m__law_three_right
def g__law_three_right_3 : FF := g__law_three_right
def m_compared : SF :=
    seqF (setF 2 (opF gMul (opF gIx (varF 0) (cF (.int 0))) (opF gIx (varF 1) (cF (.int 1)))))
    (seqF (setF 3 (opF gMul (opF gIx (varF 1) (cF (.int 0))) (opF gIx (varF 0) (cF (.int 1)))))
    (seqF (ifSF (tstF (opF gEq (varF 2) (varF 3))) (retF (cF (.int 0))) (skipF))
    (retF (ifF (tstF (opF gLt (varF 2) (varF 3))) (negF (cF (.int 1))) (cF (.int 1))))))
def g_compared : FF := fnF 2 4 (mdL none) m_compared
def g_compared_2 : FF := g_compared
def m__law_order_right : SF :=
    seqF (setF 3 (callF none g_compared_2 (consF (varF 0) (consF (varF 1) (nilF))) (nilF)))
    (seqF (ifSF (orF (tstF (opF gNotInT (varF 3) (tupF (consF (negF (cF (.int 1))) (consF (cF (.int 0)) (consF (cF (.int 1)) (nilF))))))) (orF (tstF (opF gNe (callF none g_compared_2 (consF (varF 1) (consF (varF 0) (nilF))) (nilF)) (opF gSub (cF (.int 0)) (varF 3)))) (tstF (opF gNe (opF gEq (varF 3) (cF (.int 0))) (opF gEq (varF 0) (varF 1)))))) (retF (cF (.bool false))) (skipF))
    (seqF (ifSF (tstF (opF gNe (callF none g_compared_2 (consF (callF none g_fraction_sum_s (consF (varF 0) (consF (varF 2) (nilF))) (nilF)) (consF (callF none g_fraction_sum_s (consF (varF 1) (consF (varF 2) (nilF))) (nilF)) (nilF))) (nilF)) (varF 3))) (retF (cF (.bool false))) (skipF))
    (seqF (ifSF (tstF (opF gNe (callF none g_compared_2 (consF (callF none g_fraction_product_s (consF (varF 0) (consF (varF 2) (nilF))) (nilF)) (consF (callF none g_fraction_product_s (consF (varF 1) (consF (varF 2) (nilF))) (nilF)) (nilF))) (nilF)) (opF gMul (varF 3) (callF none g_compared_2 (consF (varF 2) (consF (tupF (consF (cF (.int 0)) (consF (cF (.int 1)) (nilF)))) (nilF))) (nilF))))) (retF (cF (.bool false))) (skipF))
    (seqF (ifSF (andF (tstF (opF gLt (varF 3) (cF (.int 1)))) (andF (tstF (opF gLt (callF none g_compared_2 (consF (varF 1) (consF (varF 2) (nilF))) (nilF)) (cF (.int 1)))) (tstF (opF gGt (callF none g_compared_2 (consF (varF 0) (consF (varF 2) (nilF))) (nilF)) (cF (.int 0)))))) (retF (cF (.bool false))) (skipF))
    (retF (opF gEq (callF none g_compared_2 (consF (callF none g_fraction_sum_s (consF (varF 0) (consF (callF none g_fraction_product_s (consF (tupF (consF (negF (cF (.int 1))) (consF (cF (.int 1)) (nilF)))) (consF (varF 1) (nilF))) (nilF)) (nilF))) (nilF)) (consF (callF none g_fraction_sum_s (nilF) (nilF)) (nilF))) (nilF)) (varF 3)))))))
def g__law_order_right : FF := fnF 3 4 (mdL none) m__law_order_right
def g__law_order_right_3 : FF := g__law_order_right
def m_integer_text (r : FF) : SF :=
    seqF (ifSF (tstF (opF gLt (varF 0) (cF (.int 0)))) (retF (fstF (jCons (cF (.str "-")) (jCons (fmtF (callF none r (consF (negF (varF 0)) (nilF)) (nilF))) (jNil))))) (skipF))
    (seqF (setF 1 (lstF (nilF)))
    (seqF (whF (tstF (opF gGe (varF 0) (cF (.int 1000000000000000000000000000000000000000000000000000000000000)))) ((fun _ => none)) 2000)
    (retF (opF gAdd (clF gStr (consF (varF 0) (nilF))) (jrvF (cF (.str "")) (varF 1))))))
def h_integer_text : Nat → FF
  | 0 => fun _ => none
  | k + 1 => fnF 1 2 (mdL none) (m_integer_text (h_integer_text k))
theorem hl_integer_text : ∀ (n : Nat) (as : List S) (r : S) (os : List S), h_integer_text n as = some (r, os) → as.length = 1
  | 0, _, _, _, e => nomatch e
  | n + 1, _, _, _, e => fnF_len e
def g_integer_text : FF := h_integer_text 2
def g_integer_text_1 : FF := g_integer_text
def m_fraction_text : SF :=
    seqF (asgF (varF 0) (gTp (gsCons (gNm 1) (gsCons (gNm 2) (gsNil)))))
    (seqF (ifSF (tstF (opF gEq (varF 2) (cF (.int 1)))) (retF (callF none g_integer_text_1 (consF (varF 1) (nilF)) (nilF))) (skipF))
    (retF (fstF (jCons (fmtF (callF none g_integer_text_1 (consF (varF 1) (nilF)) (nilF))) (jCons (cF (.str "/")) (jCons (fmtF (callF none g_integer_text_1 (consF (varF 2) (nilF)) (nilF))) (jNil)))))))
def g_fraction_text : FF := fnF 1 3 (mdL none) m_fraction_text
def g_fraction_text_1 : FF := g_fraction_text
def m_are_digits : SF :=
    retF (andVF (chF gLe gLe (cF (.int 1)) (clF gLen (consF (varF 0) (nilF))) (cF (.int 60))) (clF gAll (consF (compF (itI (varF 0)) (gNm 1) (yesF) (chF gLe gLe (cF (.str "0")) (varF 1) (cF (.str "9"))) [1]) (nilF))))
def g_are_digits : FF := fnF 1 2 (mdL none) m_are_digits
def g_are_digits_1 : FF := g_are_digits
def m_fraction_or_none : SF :=
    seqF (asgF (ptnF (varF 0) (cF (.str "/"))) (gTp (gsCons (gNm 1) (gsCons (gNm 2) (gsCons (gNm 3) (gsNil))))))
    (seqF (ifSF (tstF (opF gEq (varF 2) (cF (.str "")))) (setF 3 (cF (.str "1"))) (skipF))
    (seqF (ifSF (orF (notF (tstF (callF none g_are_digits_1 (consF (rmpF (varF 1) (cF (.str "-"))) (nilF)) (nilF)))) (notF (tstF (callF none g_are_digits_1 (consF (varF 3) (nilF)) (nilF))))) (retF (cF .none)) (skipF))
    (seqF (setF 4 (tupF (consF (clF gIntS (consF (varF 1) (nilF))) (consF (clF gIntS (consF (varF 3) (nilF))) (nilF)))))
    (seqF (ifSF (andF (tstF (callF none g_is_fraction_1 (consF (varF 4) (nilF)) (nilF))) (tstF (opF gEq (callF none g_fraction_text_1 (consF (varF 4) (nilF)) (nilF)) (varF 0)))) (retF (varF 4)) (skipF))
    (retF (cF .none))))))
def g_fraction_or_none : FF := fnF 1 5 (mdL none) m_fraction_or_none
def g_fraction_or_none_1 : FF := g_fraction_or_none
def m_fraction_read : SF :=
    seqF (setF 1 (callF none g_fraction_or_none_1 (consF (varF 0) (nilF)) (nilF)))
    (seqF (ifSF (tstF (opF gIs (varF 1) (cF .none))) ((fun _ => none)) (skipF))
    (retF (varF 1)))
def g_fraction_read : FF := fnF 1 2 (mdL none) m_fraction_read
def g_fraction_read_1 : FF := g_fraction_read
def m__law_text_right : SF :=
    seqF (setF 2 (compF (itI (tupF (consF (varF 0) (consF (varF 1) (consF (callF none g_fraction_sum_s (consF (varF 0) (consF (varF 1) (nilF))) (nilF)) (consF (callF none g_fraction_product_s (consF (varF 0) (consF (varF 1) (nilF))) (nilF)) (nilF))))))) (gNm 3) (yesF) (callF none g_fraction_text_1 (consF (varF 3) (nilF)) (nilF)) [3]))
    (seqF (ifSF (tstF (opF gNe (compF (itI (varF 2)) (gNm 4) (yesF) (callF none g_fraction_read_1 (consF (varF 4) (nilF)) (nilF)) [4]) (lstF (consF (varF 0) (consF (varF 1) (consF (callF none g_fraction_sum_s (consF (varF 0) (consF (varF 1) (nilF))) (nilF)) (consF (callF none g_fraction_product_s (consF (varF 0) (consF (varF 1) (nilF))) (nilF)) (nilF)))))))) (retF (cF (.bool false))) (skipF))
    (retF (opF gEq (opF gEq (opF gIx (varF 2) (cF (.int 0))) (opF gIx (varF 2) (cF (.int 1)))) (opF gEq (varF 0) (varF 1)))))
def g__law_text_right : FF := fnF 2 5 (mdL none) m__law_text_right
def g__law_text_right_2 : FF := g__law_text_right
def m_law : SF :=
    seqF (setF 1 (callF none g__law_feed_1 (consF (varF 0) (nilF)) (nilF)))
    (seqF (forF (rng1 (consF (cF (.int 10)) (nilF))) (gNm 2) (seqF (parF3 3 4 5 (consF (callF (some 0) g__law_size_1 (consF (varF 1) (nilF)) (nilF)) (consF (callF (some 0) g__law_size_1 (consF (varF 1) (nilF)) (nilF)) (consF (callF (some 0) g__law_size_1 (consF (varF 1) (nilF)) (nilF)) (nilF)))))
    (forF (itI (tupF (consF (tupF (consF (varF 3) (consF (varF 4) (consF (varF 5) (nilF))))) (consF (tupF (consF (varF 4) (consF (varF 5) (consF (varF 3) (nilF))))) (consF (tupF (consF (varF 3) (consF (varF 3) (consF (varF 4) (nilF))))) (consF (tupF (consF (callF none g_fraction_sum_s (consF (varF 3) (consF (varF 4) (nilF))) (nilF)) (consF (varF 5) (consF (callF none g_fraction_product_s (consF (varF 3) (consF (varF 5) (nilF))) (nilF)) (nilF))))) (nilF))))))) (gTp (gsCons (gNm 6) (gsCons (gNm 7) (gsCons (gNm 8) (gsNil))))) (seqF (ifSF (orF (notF (tstF (callF none g__law_three_right_3 (consF (varF 6) (consF (varF 7) (consF (varF 8) (nilF)))) (nilF)))) (notF (tstF (callF none g__law_order_right_3 (consF (varF 6) (consF (varF 7) (consF (varF 8) (nilF)))) (nilF))))) (retF (cF (.bool false))) (skipF))
    (ifSF (notF (tstF (callF none g__law_text_right_2 (consF (varF 6) (consF (varF 7) (nilF))) (nilF)))) (retF (cF (.bool false))) (skipF))))))
    (seqF (forF (rng2 (consF (negF (cF (.int 7))) (consF (cF (.int 10)) (nilF)))) (gNm 9) (forF (itI (tupF (consF (negF (cF (.int 4))) (consF (negF (cF (.int 1))) (consF (cF (.int 2)) (consF (cF (.int 6)) (consF (cF (.int 9)) (nilF)))))))) (gNm 10) (seqF (setF 6 (callF none g_fraction_2 (consF (varF 9) (consF (varF 10) (nilF))) (nilF)))
    (ifSF (orF (notF (tstF (callF none g_is_fraction_1 (consF (varF 6) (nilF)) (nilF)))) (orF (tstF (opF gNe (callF none g_fraction_2 (consF (opF gMul (cF (.int 5)) (varF 9)) (consF (opF gMul (cF (.int 5)) (varF 10)) (nilF))) (nilF)) (varF 6))) (tstF (opF gNe (opF gMul (opF gIx (varF 6) (cF (.int 0))) (varF 10)) (opF gMul (varF 9) (opF gIx (varF 6) (cF (.int 1)))))))) (retF (cF (.bool false))) (skipF)))))
    (retF (cF (.bool true)))))
def g_law : FF := fnF 1 11 (mdL none) m_law
/-! ### what the top has written -/
structure Fc (K : PySem.W.Frag) (mg : Str → Option Value) : Prop where
  g_fraction : mg "fraction" = some (.ref (He.ga K "fraction"))
  g_fraction_sum : mg "fraction_sum" = some (.ref (He.ga K "fraction_sum"))
  g_fraction_product : mg "fraction_product" = some (.ref (He.ga K "fraction_product"))
  g_is_integer : mg "is_integer" = some (.ref (He.ga K "is_integer"))
  g_is_row : mg "is_row" = some (.ref (He.ga K "is_row"))
  g_is_fraction : mg "is_fraction" = some (.ref (He.ga K "is_fraction"))
  g__law_feed : mg "_law_feed" = some (.ref (He.ga K "_law_feed"))
  g__law_draw : mg "_law_draw" = some (.ref (He.ga K "_law_draw"))
  g__law_sizes : mg "_law_sizes" = some (.ref (He.ga K "_law_sizes"))
  g__law_size : mg "_law_size" = some (.ref (He.ga K "_law_size"))
  g__law_three_right : mg "_law_three_right" = some (.ref (He.ga K "_law_three_right"))
  g_compared : mg "compared" = some (.ref (He.ga K "compared"))
  g__law_order_right : mg "_law_order_right" = some (.ref (He.ga K "_law_order_right"))
  g_integer_text : mg "integer_text" = some (.ref (He.ga K "integer_text"))
  g_fraction_text : mg "fraction_text" = some (.ref (He.ga K "fraction_text"))
  g_are_digits : mg "are_digits" = some (.ref (He.ga K "are_digits"))
  g_fraction_or_none : mg "fraction_or_none" = some (.ref (He.ga K "fraction_or_none"))
  g_fraction_read : mg "fraction_read" = some (.ref (He.ga K "fraction_read"))
  g__law_text_right : mg "_law_text_right" = some (.ref (He.ga K "_law_text_right"))
  b_abs : mg "abs" = none
  b_all : mg "all" = none
  b_bool : mg "bool" = none
  b_int : mg "int" = none
  b_isinstance : mg "isinstance" = none
  b_len : mg "len" = none
  b_list : mg "list" = none
  b_range : mg "range" = none
  b_reversed : mg "reversed" = none
  b_str : mg "str" = none
  b_tuple : mg "tuple" = none
  m_gcd : mg "gcd" = some (.builtin "math.gcd")
  i_CHUNK : ∃ t, mg "CHUNK" = some (.int 1000000000000000000000000000000000000000000000000000000000000 t)
  i_MOST_DIGITS : ∃ t, mg "MOST_DIGITS" = some (.int 60 t)
  d_fraction : ∃ fd, FunD K "fraction" "fraction" (defArgs s_fraction) (defBody s_fraction) (defScope s_fraction) [.int 1] [] (He.ga K "fraction") fd
  d_fraction_sum : ∃ fd, FunD K "fraction_sum" "fraction_sum" (defArgs s_fraction_sum) (defBody s_fraction_sum) (defScope s_fraction_sum) [] [] (He.ga K "fraction_sum") fd
  d_fraction_product : ∃ fd, FunD K "fraction_product" "fraction_product" (defArgs s_fraction_product) (defBody s_fraction_product) (defScope s_fraction_product) [] [] (He.ga K "fraction_product") fd
  d_is_integer : ∃ fd, FunD K "is_integer" "is_integer" (defArgs s_is_integer) (defBody s_is_integer) (defScope s_is_integer) [] [] (He.ga K "is_integer") fd
  d_is_row : ∃ fd, FunD K "is_row" "is_row" (defArgs s_is_row) (defBody s_is_row) (defScope s_is_row) [] [] (He.ga K "is_row") fd
  d_is_fraction : ∃ fd, FunD K "is_fraction" "is_fraction" (defArgs s_is_fraction) (defBody s_is_fraction) (defScope s_is_fraction) [] [] (He.ga K "is_fraction") fd
  d__law_feed : ∃ fd, FunD K "_law_feed" "_law_feed" (defArgs s__law_feed) (defBody s__law_feed) (defScope s__law_feed) [] [] (He.ga K "_law_feed") fd
  d__law_draw : ∃ fd, FunD K "_law_draw" "_law_draw" (defArgs s__law_draw) (defBody s__law_draw) (defScope s__law_draw) [] [] (He.ga K "_law_draw") fd
  d__law_sizes : ∃ fd, FunD K "_law_sizes" "_law_sizes" (defArgs s__law_sizes) (defBody s__law_sizes) (defScope s__law_sizes) [] [] (He.ga K "_law_sizes") fd
  d__law_size : ∃ fd, FunD K "_law_size" "_law_size" (defArgs s__law_size) (defBody s__law_size) (defScope s__law_size) [] [] (He.ga K "_law_size") fd
  d__law_three_right : ∃ fd, FunD K "_law_three_right" "_law_three_right" (defArgs s__law_three_right) (defBody s__law_three_right) (defScope s__law_three_right) [] [] (He.ga K "_law_three_right") fd
  d_compared : ∃ fd, FunD K "compared" "compared" (defArgs s_compared) (defBody s_compared) (defScope s_compared) [] [] (He.ga K "compared") fd
  d__law_order_right : ∃ fd, FunD K "_law_order_right" "_law_order_right" (defArgs s__law_order_right) (defBody s__law_order_right) (defScope s__law_order_right) [] [] (He.ga K "_law_order_right") fd
  d_integer_text : ∃ fd, FunD K "integer_text" "integer_text" (defArgs s_integer_text) (defBody s_integer_text) (defScope s_integer_text) [] [] (He.ga K "integer_text") fd
  d_fraction_text : ∃ fd, FunD K "fraction_text" "fraction_text" (defArgs s_fraction_text) (defBody s_fraction_text) (defScope s_fraction_text) [] [] (He.ga K "fraction_text") fd
  d_are_digits : ∃ fd, FunD K "are_digits" "are_digits" (defArgs s_are_digits) (defBody s_are_digits) (defScope s_are_digits) [] [] (He.ga K "are_digits") fd
  d_fraction_or_none : ∃ fd, FunD K "fraction_or_none" "fraction_or_none" (defArgs s_fraction_or_none) (defBody s_fraction_or_none) (defScope s_fraction_or_none) [] [] (He.ga K "fraction_or_none") fd
  d_fraction_read : ∃ fd, FunD K "fraction_read" "fraction_read" (defArgs s_fraction_read) (defBody s_fraction_read) (defScope s_fraction_read) [] [] (He.ga K "fraction_read") fd
  d__law_text_right : ∃ fd, FunD K "_law_text_right" "_law_text_right" (defArgs s__law_text_right) (defBody s__law_text_right) (defScope s__law_text_right) [] [] (He.ga K "_law_text_right") fd
  d_law : ∃ fd, FunD K "law" "law" (defArgs s_law) (defBody s_law) (defScope s_law) [] [] (He.ga K "law") fd
section
variable {P : Program} {w : World} {K : PySem.W.Frag} {mg : Str → Option Value} {base : Heap}
theorem db_fraction (F : Fc K mg) {k : Nat} (hk : 0 ≤ k) {r : FF} (R_2 : DFn P w K mg base k (He.ga K "fraction") [] (mdL none) (kwF 2 0 [(0, 0), (0, 1)] [.fz (.int 1)] (r))) (cdv : Value) (A : Around) (outer : List Env) (s : Shared) (H : Hp) (hr : Room k (A.deeper (envOfC "fraction" (defScope s_fraction) s.heap.objs.size (He.ga K "fraction") cdv))) (hgd : (A.deeper (envOfC "fraction" (defScope s_fraction) s.heap.objs.size (He.ga K "fraction") cdv)).guards = some []) : DB (pmOf (mdL none)) (cxB P w K mg base N_fraction "fraction" (defScope s_fraction) (He.ga K "fraction") cdv A outer s H) (defBody s_fraction) (m_fraction r) :=
  have hu := hr.units
  have hu1 := hu_of hr
  db_cons (ds_if (dt_cmp dop_lt (de_var (i := 1) rfl (by first | exact .inl rfl | exact .inr (.inl rfl) | exact .inr (.inr rfl))) (de_int) (nomark _)) (db_one (ds_ret (de_call (ks := []) (md := none) R_2 hr hgd (by rfl) F.g_fraction (da_cons (de_neg (de_var (i := 0) rfl (by first | exact .inl rfl | exact .inr (.inl rfl) | exact .inr (.inr rfl)))) (da_cons (de_neg (de_var (i := 1) rfl (by first | exact .inl rfl | exact .inr (.inl rfl) | exact .inr (.inr rfl)))) (da_nil))) (dk_nil) (len_nil)))) (db_nil))
    (db_cons (ds_set (i := 2) sc_fraction.nd rfl (by first | exact .inl rfl | exact .inr rfl) (de_callM dcl_gcd (by rfl) F.m_gcd (da_cons (de_var (i := 0) rfl (by first | exact .inl rfl | exact .inr (.inl rfl) | exact .inr (.inr rfl))) (da_cons (de_var (i := 1) rfl (by first | exact .inl rfl | exact .inr (.inl rfl) | exact .inr (.inr rfl))) (da_nil)))) rfl)
    (db_one (ds_ret (de_tup (da_cons (de_op dop_div (de_var (i := 0) rfl (by first | exact .inl rfl | exact .inr (.inl rfl) | exact .inr (.inr rfl))) (de_var (i := 2) rfl (by first | exact .inl rfl | exact .inr (.inl rfl) | exact .inr (.inr rfl)))) (da_cons (de_op dop_div (de_var (i := 1) rfl (by first | exact .inl rfl | exact .inr (.inl rfl) | exact .inr (.inr rfl))) (de_var (i := 2) rfl (by first | exact .inl rfl | exact .inr (.inl rfl) | exact .inr (.inr rfl)))) (da_nil)))))))
theorem dh_fraction (F : Fc K mg) {fd : FuncData} (D : FunD K "fraction" "fraction" (defArgs s_fraction) (defBody s_fraction) (defScope s_fraction) [.int 1] [] (He.ga K "fraction") fd) : ∀ n : Nat, DFb P w K mg base (0 + n) (He.ga K "fraction") fd ["numerator", "denominator"] (mdL none) (h_fraction n)
  | 0 => DFb.none
  | n + 1 => fd_dfb D sc_fraction fun cdv A outer s H hr hgd => db_fraction F (Nat.le_add_right _ _) (fd_kw1 (n := 2) (ks := []) (ix := [(0, 0), (0, 1)]) (dS := [.fz (.int 1)]) D (dh_fraction F D n) (by simp) (fun _ _ => .cons (.int _) (.nil)) (by simp [S.own]) fun T _ _ _ _ _ _ us its ws h1 h0 h2 => match us, its, ws, h1, h0, h2 with | [a0, a1], [c0], [], _, _, _ => ⟨_, rfl, rfl⟩) cdv A outer s H hr hgd
theorem ok_fraction_2 (F : Fc K mg) : DFn P w K mg base 2 (He.ga K "fraction") [] (mdL none) g_fraction_2 := by
  obtain ⟨fd, D⟩ := F.d_fraction
  exact fd_kw1 (n := 2) (ks := []) (ix := [(0, 0), (0, 1)]) (dS := [.fz (.int 1)]) D (dh_fraction F D 2) (by simp) (fun _ _ => .cons (.int _) (.nil)) (by simp [S.own]) fun T _ _ _ _ _ _ us its ws h1 h0 h2 => match us, its, ws, h1, h0, h2 with | [a0, a1], [c0], [], _, _, _ => ⟨_, rfl, rfl⟩
theorem db_fraction_sum (F : Fc K mg) (cdv : Value) (A : Around) (outer : List Env) (s : Shared) (H : Hp) (hr : Room 2 (A.deeper (envOfC "fraction_sum" (defScope s_fraction_sum) s.heap.objs.size (He.ga K "fraction_sum") cdv))) (hgd : (A.deeper (envOfC "fraction_sum" (defScope s_fraction_sum) s.heap.objs.size (He.ga K "fraction_sum") cdv)).guards = some []) : DB (pmOf []) (cxB P w K mg base N_fraction_sum "fraction_sum" (defScope s_fraction_sum) (He.ga K "fraction_sum") cdv A outer s H) (defBody s_fraction_sum) m_fraction_sum :=
  have hu := hr.units
  have hu1 := hu_of hr
  db_cons (ds_set (i := 1) sc_fraction_sum.nd rfl (by first | exact .inl rfl | exact .inr rfl) (de_tup (da_cons (de_int) (da_cons (de_int) (da_nil)))) rfl)
    (db_cons (ds_for PassesOwn.never rfl (di_seq (de_var (i := 0) rfl (by first | exact .inl rfl | exact .inr (.inl rfl) | exact .inr (.inr rfl)))) (dg_tup rfl (dgs_cons (dg_name (i := 2) sc_fraction_sum.nd rfl (by first | exact .inl rfl | exact .inr rfl) rfl) (dgs_cons (dg_name (i := 3) sc_fraction_sum.nd rfl (by first | exact .inl rfl | exact .inr rfl) rfl) (dgs_nil))) (gl_cons (gl_cons (gl_nil)))) (db_one (ds_set (i := 1) sc_fraction_sum.nd rfl (by first | exact .inl rfl | exact .inr rfl) (de_call (ks := []) (md := none) (ok_fraction_2 F) (hr.mono (by decide)) hgd (by rfl) F.g_fraction (da_cons (de_op dop_add (de_op dop_mul (de_ix dix (de_var (i := 1) rfl (by first | exact .inl rfl | exact .inr (.inl rfl) | exact .inr (.inr rfl))) (de_int) (fun _ _ => rfl)) (de_var (i := 3) rfl (by first | exact .inl rfl | exact .inr (.inl rfl) | exact .inr (.inr rfl)))) (de_op dop_mul (de_var (i := 2) rfl (by first | exact .inl rfl | exact .inr (.inl rfl) | exact .inr (.inr rfl))) (de_ix dix (de_var (i := 1) rfl (by first | exact .inl rfl | exact .inr (.inl rfl) | exact .inr (.inr rfl))) (de_int) (fun _ _ => rfl)))) (da_cons (de_op dop_mul (de_ix dix (de_var (i := 1) rfl (by first | exact .inl rfl | exact .inr (.inl rfl) | exact .inr (.inr rfl))) (de_int) (fun _ _ => rfl)) (de_var (i := 3) rfl (by first | exact .inl rfl | exact .inr (.inl rfl) | exact .inr (.inr rfl)))) (da_nil))) (dk_nil) (len_nil)) rfl)))
    (db_one (ds_ret (de_var (i := 1) rfl (by first | exact .inl rfl | exact .inr (.inl rfl) | exact .inr (.inr rfl))))))
theorem ok_fraction_sum_s (F : Fc K mg) : DFn P w K mg base 3 (He.ga K "fraction_sum") [] (mdL none) g_fraction_sum_s := by
  obtain ⟨fd, D⟩ := F.d_fraction_sum
  exact fd_star D sc_fraction_sum (fun _ _ _ _ _ _ us => match us with | [] => rfl | _ :: _ => rfl) (db_fraction_sum F)
theorem db_fraction_product (F : Fc K mg) (cdv : Value) (A : Around) (outer : List Env) (s : Shared) (H : Hp) (hr : Room 2 (A.deeper (envOfC "fraction_product" (defScope s_fraction_product) s.heap.objs.size (He.ga K "fraction_product") cdv))) (hgd : (A.deeper (envOfC "fraction_product" (defScope s_fraction_product) s.heap.objs.size (He.ga K "fraction_product") cdv)).guards = some []) : DB (pmOf []) (cxB P w K mg base N_fraction_product "fraction_product" (defScope s_fraction_product) (He.ga K "fraction_product") cdv A outer s H) (defBody s_fraction_product) m_fraction_product :=
  have hu := hr.units
  have hu1 := hu_of hr
  db_cons (ds_set (i := 1) sc_fraction_product.nd rfl (by first | exact .inl rfl | exact .inr rfl) (de_tup (da_cons (de_int) (da_cons (de_int) (da_nil)))) rfl)
    (db_cons (ds_for PassesOwn.never rfl (di_seq (de_var (i := 0) rfl (by first | exact .inl rfl | exact .inr (.inl rfl) | exact .inr (.inr rfl)))) (dg_tup rfl (dgs_cons (dg_name (i := 2) sc_fraction_product.nd rfl (by first | exact .inl rfl | exact .inr rfl) rfl) (dgs_cons (dg_name (i := 3) sc_fraction_product.nd rfl (by first | exact .inl rfl | exact .inr rfl) rfl) (dgs_nil))) (gl_cons (gl_cons (gl_nil)))) (db_one (ds_set (i := 1) sc_fraction_product.nd rfl (by first | exact .inl rfl | exact .inr rfl) (de_call (ks := []) (md := none) (ok_fraction_2 F) (hr.mono (by decide)) hgd (by rfl) F.g_fraction (da_cons (de_op dop_mul (de_ix dix (de_var (i := 1) rfl (by first | exact .inl rfl | exact .inr (.inl rfl) | exact .inr (.inr rfl))) (de_int) (fun _ _ => rfl)) (de_var (i := 2) rfl (by first | exact .inl rfl | exact .inr (.inl rfl) | exact .inr (.inr rfl)))) (da_cons (de_op dop_mul (de_ix dix (de_var (i := 1) rfl (by first | exact .inl rfl | exact .inr (.inl rfl) | exact .inr (.inr rfl))) (de_int) (fun _ _ => rfl)) (de_var (i := 3) rfl (by first | exact .inl rfl | exact .inr (.inl rfl) | exact .inr (.inr rfl)))) (da_nil))) (dk_nil) (len_nil)) rfl)))
    (db_one (ds_ret (de_var (i := 1) rfl (by first | exact .inl rfl | exact .inr (.inl rfl) | exact .inr (.inr rfl))))))
theorem ok_fraction_product_s (F : Fc K mg) : DFn P w K mg base 3 (He.ga K "fraction_product") [] (mdL none) g_fraction_product_s := by
  obtain ⟨fd, D⟩ := F.d_fraction_product
  exact fd_star D sc_fraction_product (fun _ _ _ _ _ _ us => match us with | [] => rfl | _ :: _ => rfl) (db_fraction_product F)
theorem db_is_integer (F : Fc K mg) (cdv : Value) (A : Around) (outer : List Env) (s : Shared) (H : Hp) (hr : Room 0 (A.deeper (envOfC "is_integer" (defScope s_is_integer) s.heap.objs.size (He.ga K "is_integer") cdv))) (hgd : (A.deeper (envOfC "is_integer" (defScope s_is_integer) s.heap.objs.size (He.ga K "is_integer") cdv)).guards = some []) : DB (pmOf (mdL none)) (cxB P w K mg base N_is_integer "is_integer" (defScope s_is_integer) (He.ga K "is_integer") cdv A outer s H) (defBody s_is_integer) m_is_integer :=
  have hu := hr.units
  have hu1 := hu_of hr
  db_one (ds_ret (de_and (de_isi rfl (de_var (i := 0) rfl (by first | exact .inl rfl | exact .inr (.inl rfl) | exact .inr (.inr rfl))) (by rfl) F.b_isinstance (by rfl) F.b_int bt_isi bt_int) (de_one (de_not (de_isi rfl (de_var (i := 0) rfl (by first | exact .inl rfl | exact .inr (.inl rfl) | exact .inr (.inr rfl))) (by rfl) F.b_isinstance (by rfl) F.b_bool bt_isi bt_bool)))))
theorem ok_is_integer_1 (F : Fc K mg) : DFn P w K mg base 1 (He.ga K "is_integer") [] (mdL none) g_is_integer_1 := by
  obtain ⟨fd, D⟩ := F.d_is_integer
  exact fd_pos D (fd_dfb D sc_is_integer (db_is_integer F)) rfl fun _ _ _ _ _ _ us hl => match us, hl with | [a0], _ => rfl
theorem db_is_row (F : Fc K mg) (cdv : Value) (A : Around) (outer : List Env) (s : Shared) (H : Hp) (hr : Room 0 (A.deeper (envOfC "is_row" (defScope s_is_row) s.heap.objs.size (He.ga K "is_row") cdv))) (hgd : (A.deeper (envOfC "is_row" (defScope s_is_row) s.heap.objs.size (He.ga K "is_row") cdv)).guards = some []) : DB (pmOf (mdL none)) (cxB P w K mg base N_is_row "is_row" (defScope s_is_row) (He.ga K "is_row") cdv A outer s H) (defBody s_is_row) m_is_row :=
  have hu := hr.units
  have hu1 := hu_of hr
  db_one (ds_ret (de_and (de_isi rfl (de_var (i := 0) rfl (by first | exact .inl rfl | exact .inr (.inl rfl) | exact .inr (.inr rfl))) (by rfl) F.b_isinstance (by rfl) F.b_tuple bt_isi bt_tuple) (de_one (de_cmp (dop_eq hu) (de_callB dcl_len (by rfl) F.b_len bt_len (da_cons (de_var (i := 0) rfl (by first | exact .inl rfl | exact .inr (.inl rfl) | exact .inr (.inr rfl))) (da_nil))) (de_var (i := 1) rfl (by first | exact .inl rfl | exact .inr (.inl rfl) | exact .inr (.inr rfl))) (nomark _)))))
theorem ok_is_row_2 (F : Fc K mg) : DFn P w K mg base 1 (He.ga K "is_row") [] (mdL none) g_is_row_2 := by
  obtain ⟨fd, D⟩ := F.d_is_row
  exact fd_pos D (fd_dfb D sc_is_row (db_is_row F)) rfl fun _ _ _ _ _ _ us hl => match us, hl with | [a0, a1], _ => rfl
theorem db_is_fraction (F : Fc K mg) (cdv : Value) (A : Around) (outer : List Env) (s : Shared) (H : Hp) (hr : Room 1 (A.deeper (envOfC "is_fraction" (defScope s_is_fraction) s.heap.objs.size (He.ga K "is_fraction") cdv))) (hgd : (A.deeper (envOfC "is_fraction" (defScope s_is_fraction) s.heap.objs.size (He.ga K "is_fraction") cdv)).guards = some []) : DB (pmOf (mdL none)) (cxB P w K mg base N_is_fraction "is_fraction" (defScope s_is_fraction) (He.ga K "is_fraction") cdv A outer s H) (defBody s_is_fraction) m_is_fraction :=
  have hu := hr.units
  have hu1 := hu_of hr
  db_cons (ds_if (DW.dt (dw_or (dt_not (dt_val (de_call (ks := []) (md := none) (ok_is_row_2 F) (hr.mono (by decide)) hgd (by rfl) F.g_is_row (da_cons (de_var (i := 0) rfl (by first | exact .inl rfl | exact .inr (.inl rfl) | exact .inr (.inr rfl))) (da_cons (de_int) (da_nil))) (dk_nil) (len_nil)))) (dw_or (dt_not (dt_val (de_call (ks := []) (md := none) (ok_is_integer_1 F) (hr.mono (by decide)) hgd (by rfl) F.g_is_integer (da_cons (de_ix dix (de_var (i := 0) rfl (by first | exact .inl rfl | exact .inr (.inl rfl) | exact .inr (.inr rfl))) (de_int) (fun _ _ => rfl)) (da_nil)) (dk_nil) (len_nil)))) (dw_or1 (dt_not (dt_val (de_call (ks := []) (md := none) (ok_is_integer_1 F) (hr.mono (by decide)) hgd (by rfl) F.g_is_integer (da_cons (de_ix dix (de_var (i := 0) rfl (by first | exact .inl rfl | exact .inr (.inl rfl) | exact .inr (.inr rfl))) (de_int) (fun _ _ => rfl)) (da_nil)) (dk_nil) (len_nil)))))))) (db_one (ds_ret (de_bl))) (db_nil))
    (db_one (ds_ret (de_and (de_cmp dop_ge (de_ix dix (de_var (i := 0) rfl (by first | exact .inl rfl | exact .inr (.inl rfl) | exact .inr (.inr rfl))) (de_int) (fun _ _ => rfl)) (de_int) (nomark _)) (de_one (de_cmp (dop_eq hu) (de_callM dcl_gcd (by rfl) F.m_gcd (da_cons (de_ix dix (de_var (i := 0) rfl (by first | exact .inl rfl | exact .inr (.inl rfl) | exact .inr (.inr rfl))) (de_int) (fun _ _ => rfl)) (da_cons (de_ix dix (de_var (i := 0) rfl (by first | exact .inl rfl | exact .inr (.inl rfl) | exact .inr (.inr rfl))) (de_int) (fun _ _ => rfl)) (da_nil)))) (de_int) (nomark _))))))
theorem ok_is_fraction_1 (F : Fc K mg) : DFn P w K mg base 2 (He.ga K "is_fraction") [] (mdL none) g_is_fraction_1 := by
  obtain ⟨fd, D⟩ := F.d_is_fraction
  exact fd_pos D (fd_dfb D sc_is_fraction (db_is_fraction F)) rfl fun _ _ _ _ _ _ us hl => match us, hl with | [a0], _ => rfl
theorem db__law_feed (F : Fc K mg) (cdv : Value) (A : Around) (outer : List Env) (s : Shared) (H : Hp) (hr : Room 0 (A.deeper (envOfC "_law_feed" (defScope s__law_feed) s.heap.objs.size (He.ga K "_law_feed") cdv))) (hgd : (A.deeper (envOfC "_law_feed" (defScope s__law_feed) s.heap.objs.size (He.ga K "_law_feed") cdv)).guards = some []) : DB (pmOf (mdL none)) (cxB P w K mg base N__law_feed "_law_feed" (defScope s__law_feed) (He.ga K "_law_feed") cdv A outer s H) (defBody s__law_feed) m__law_feed :=
  have hu := hr.units
  have hu1 := hu_of hr
  db_one (ds_ret (de_disp (dps_cons (de_callTy dcl_list (by rfl) F.b_list bt_list (da_cons (de_slice (de_var (i := 0) rfl (by first | exact .inl rfl | exact .inr (.inl rfl) | exact .inr (.inr rfl))) (dp_none) (dp_some (de_int))) (da_nil))) (dps_cons (de_int) (dps_cons (de_int) (dps_cons (de_int) (dps_nil))))) (kl_le (kl_cons (kl_cons (kl_cons (kl_cons (kl_nil))))))))
theorem ok__law_feed_1 (F : Fc K mg) : DFn P w K mg base 1 (He.ga K "_law_feed") [] (mdL none) g__law_feed_1 := by
  obtain ⟨fd, D⟩ := F.d__law_feed
  exact fd_pos D (fd_dfb D sc__law_feed (db__law_feed F)) rfl fun _ _ _ _ _ _ us hl => match us, hl with | [a0], _ => rfl
theorem db__law_draw (F : Fc K mg) (cdv : Value) (A : Around) (outer : List Env) (s : Shared) (H : Hp) (hr : Room 0 (A.deeper (envOfC "_law_draw" (defScope s__law_draw) s.heap.objs.size (He.ga K "_law_draw") cdv))) (hgd : (A.deeper (envOfC "_law_draw" (defScope s__law_draw) s.heap.objs.size (He.ga K "_law_draw") cdv)).guards = some []) : DB (pmOf (mdL (some 0))) (cxB P w K mg base N__law_draw "_law_draw" (defScope s__law_draw) (He.ga K "_law_draw") cdv A outer s H) (defBody s__law_draw) m__law_draw :=
  have hu := hr.units
  have hu1 := hu_of hr
  db_cons (ds_dput hu1 (de_var (i := 0) rfl (by first | exact .inl rfl | exact .inr (.inl rfl) | exact .inr (.inr rfl))) (de_str) (de_op dop_add (de_dget hu1 (de_var (i := 0) rfl (by first | exact .inl rfl | exact .inr (.inl rfl) | exact .inr (.inr rfl))) (de_str) (fun _ _ => rfl)) (de_int)))
    (db_cons (ds_if (dt_cmp dop_gt (de_dget hu1 (de_var (i := 0) rfl (by first | exact .inl rfl | exact .inr (.inl rfl) | exact .inr (.inr rfl))) (de_str) (fun _ _ => rfl)) (de_int) (nomark _)) (db_cons (ds_set (i := 2) sc__law_draw.nd rfl (by first | exact .inl rfl | exact .inr rfl) (de_op dop_mod (de_dget hu1 (de_var (i := 0) rfl (by first | exact .inl rfl | exact .inr (.inl rfl) | exact .inr (.inr rfl))) (de_str) (fun _ _ => rfl)) (de_var (i := 1) rfl (by first | exact .inl rfl | exact .inr (.inl rfl) | exact .inr (.inr rfl)))) rfl)
    (db_cons (ds_dput hu1 (de_var (i := 0) rfl (by first | exact .inl rfl | exact .inr (.inl rfl) | exact .inr (.inr rfl))) (de_str) (de_op dop_div (de_dget hu1 (de_var (i := 0) rfl (by first | exact .inl rfl | exact .inr (.inl rfl) | exact .inr (.inr rfl))) (de_str) (fun _ _ => rfl)) (de_var (i := 1) rfl (by first | exact .inl rfl | exact .inr (.inl rfl) | exact .inr (.inr rfl)))))
    (db_one (ds_ret (de_var (i := 2) rfl (by first | exact .inl rfl | exact .inr (.inl rfl) | exact .inr (.inr rfl))))))) (db_nil))
    (db_cons (ds_set (i := 3) sc__law_draw.nd rfl (by first | exact .inl rfl | exact .inr rfl) (de_dget hu1 (de_var (i := 0) rfl (by first | exact .inl rfl | exact .inr (.inl rfl) | exact .inr (.inr rfl))) (de_str) (fun _ _ => rfl)) rfl)
    (db_cons (ds_dput hu1 (de_var (i := 0) rfl (by first | exact .inl rfl | exact .inr (.inl rfl) | exact .inr (.inr rfl))) (de_str) (de_op dop_add (de_var (i := 3) rfl (by first | exact .inl rfl | exact .inr (.inl rfl) | exact .inr (.inr rfl))) (de_int)))
    (db_cons (ds_set (i := 4) sc__law_draw.nd rfl (by first | exact .inl rfl | exact .inr rfl) (de_if (dt_cmp (dop_ne hu) (de_dget hu1 (de_var (i := 0) rfl (by first | exact .inl rfl | exact .inr (.inl rfl) | exact .inr (.inr rfl))) (de_str) (fun _ _ => rfl)) (de_lst (da_nil)) (nomark _)) (de_ix dix (de_dget hu1 (de_var (i := 0) rfl (by first | exact .inl rfl | exact .inr (.inl rfl) | exact .inr (.inr rfl))) (de_str) (fun _ _ => rfl)) (de_op dop_mod (de_var (i := 3) rfl (by first | exact .inl rfl | exact .inr (.inl rfl) | exact .inr (.inr rfl))) (de_callB dcl_len (by rfl) F.b_len bt_len (da_cons (de_dget hu1 (de_var (i := 0) rfl (by first | exact .inl rfl | exact .inr (.inl rfl) | exact .inr (.inr rfl))) (de_str) (fun _ _ => rfl)) (da_nil)))) (fun _ _ => rfl)) (de_int)) rfl)
    (db_cons (ds_if (DW.dt (dw_and (dt_cmp dop_ge (de_var (i := 4) rfl (by first | exact .inl rfl | exact .inr (.inl rfl) | exact .inr (.inr rfl))) (de_op dop_pow (de_int) (de_int)) (nomark _)) (dw_and1 (dt_cmp dop_lt (de_var (i := 3) rfl (by first | exact .inl rfl | exact .inr (.inl rfl) | exact .inr (.inr rfl))) (de_callB dcl_len (by rfl) F.b_len bt_len (da_cons (de_dget hu1 (de_var (i := 0) rfl (by first | exact .inl rfl | exact .inr (.inl rfl) | exact .inr (.inr rfl))) (de_str) (fun _ _ => rfl)) (da_nil))) (nomark _))))) (db_cons (ds_dput hu1 (de_var (i := 0) rfl (by first | exact .inl rfl | exact .inr (.inl rfl) | exact .inr (.inr rfl))) (de_str) (de_op dop_div (de_var (i := 4) rfl (by first | exact .inl rfl | exact .inr (.inl rfl) | exact .inr (.inr rfl))) (de_var (i := 1) rfl (by first | exact .inl rfl | exact .inr (.inl rfl) | exact .inr (.inr rfl)))))
    (db_one (ds_ret (de_op dop_mod (de_var (i := 4) rfl (by first | exact .inl rfl | exact .inr (.inl rfl) | exact .inr (.inr rfl))) (de_var (i := 1) rfl (by first | exact .inl rfl | exact .inr (.inl rfl) | exact .inr (.inr rfl))))))) (db_nil))
    (db_cons (ds_set (i := 5) sc__law_draw.nd rfl (by first | exact .inl rfl | exact .inr rfl) (de_op dop_mod (de_op dop_add (de_op dop_add (de_op dop_mod (de_var (i := 4) rfl (by first | exact .inl rfl | exact .inr (.inl rfl) | exact .inr (.inr rfl))) (de_int)) (de_op dop_mul (de_int) (de_dget hu1 (de_var (i := 0) rfl (by first | exact .inl rfl | exact .inr (.inl rfl) | exact .inr (.inr rfl))) (de_str) (fun _ _ => rfl)))) (de_int)) (de_int)) rfl)
    (db_cons (ds_set (i := 5) sc__law_draw.nd rfl (by first | exact .inl rfl | exact .inr rfl) (de_op dop_mod (de_op dop_add (de_op dop_add (de_op dop_mul (de_var (i := 5) rfl (by first | exact .inl rfl | exact .inr (.inl rfl) | exact .inr (.inr rfl))) (de_var (i := 5) rfl (by first | exact .inl rfl | exact .inr (.inl rfl) | exact .inr (.inr rfl)))) (de_op dop_mul (de_int) (de_dget hu1 (de_var (i := 0) rfl (by first | exact .inl rfl | exact .inr (.inl rfl) | exact .inr (.inr rfl))) (de_str) (fun _ _ => rfl)))) (de_int)) (de_int)) rfl)
    (db_one (ds_ret (de_op dop_mod (de_op dop_div (de_op dop_mod (de_op dop_add (de_op dop_mul (de_var (i := 5) rfl (by first | exact .inl rfl | exact .inr (.inl rfl) | exact .inr (.inr rfl))) (de_var (i := 5) rfl (by first | exact .inl rfl | exact .inr (.inl rfl) | exact .inr (.inr rfl)))) (de_op dop_mul (de_int) (de_var (i := 5) rfl (by first | exact .inl rfl | exact .inr (.inl rfl) | exact .inr (.inr rfl))))) (de_int)) (de_int)) (de_var (i := 1) rfl (by first | exact .inl rfl | exact .inr (.inl rfl) | exact .inr (.inr rfl)))))))))))))
theorem ok__law_draw_2 (F : Fc K mg) : DFn P w K mg base 1 (He.ga K "_law_draw") [] (mdL (some 0)) g__law_draw_2 := by
  obtain ⟨fd, D⟩ := F.d__law_draw
  exact fd_pos D (fd_dfb D sc__law_draw (db__law_draw F)) rfl fun _ _ _ _ _ _ us hl => match us, hl with | [a0, a1], _ => rfl
theorem db__law_sizes (F : Fc K mg) (cdv : Value) (A : Around) (outer : List Env) (s : Shared) (H : Hp) (hr : Room 0 (A.deeper (envOfC "_law_sizes" (defScope s__law_sizes) s.heap.objs.size (He.ga K "_law_sizes") cdv))) (hgd : (A.deeper (envOfC "_law_sizes" (defScope s__law_sizes) s.heap.objs.size (He.ga K "_law_sizes") cdv)).guards = some []) : DB (pmOf (mdL none)) (cxB P w K mg base N__law_sizes "_law_sizes" (defScope s__law_sizes) (He.ga K "_law_sizes") cdv A outer s H) (defBody s__law_sizes) m__law_sizes :=
  have hu := hr.units
  have hu1 := hu_of hr
  db_cons (ds_set (i := 0) sc__law_sizes.nd rfl (by first | exact .inl rfl | exact .inr rfl) (de_lst (da_cons (de_tup (da_cons (de_int) (da_cons (de_int) (da_nil)))) (da_cons (de_tup (da_cons (de_int) (da_cons (de_int) (da_nil)))) (da_cons (de_tup (da_cons (de_neg (de_int)) (da_cons (de_int) (da_nil)))) (da_cons (de_tup (da_cons (de_int) (da_cons (de_int) (da_nil)))) (da_cons (de_tup (da_cons (de_neg (de_int)) (da_cons (de_int) (da_nil)))) (da_cons (de_tup (da_cons (de_int) (da_cons (de_int) (da_nil)))) (da_cons (de_tup (da_cons (de_neg (de_int)) (da_cons (de_int) (da_nil)))) (da_cons (de_tup (da_cons (de_int) (da_cons (de_int) (da_nil)))) (da_cons (de_tup (da_cons (de_neg (de_int)) (da_cons (de_int) (da_nil)))) (da_cons (de_tup (da_cons (de_int) (da_cons (de_int) (da_nil)))) (da_cons (de_tup (da_cons (de_int) (da_cons (de_int) (da_nil)))) (da_cons (de_tup (da_cons (de_int) (da_cons (de_int) (da_nil)))) (da_nil)))))))))))))) rfl)
    (db_one (ds_ret (de_op dop_add (de_var (i := 0) rfl (by first | exact .inl rfl | exact .inr (.inl rfl) | exact .inr (.inr rfl))) (de_lst (da_cons (de_tup (da_cons (de_neg (de_int)) (da_cons (de_int) (da_nil)))) (da_cons (de_tup (da_cons (de_int) (da_cons (de_int) (da_nil)))) (da_cons (de_tup (da_cons (de_neg (de_int)) (da_cons (de_int) (da_nil)))) (da_cons (de_tup (da_cons (de_int) (da_cons (de_int) (da_nil)))) (da_cons (de_tup (da_cons (de_neg (de_int)) (da_cons (de_int) (da_nil)))) (da_cons (de_tup (da_cons (de_int) (da_cons (de_int) (da_nil)))) (da_cons (de_tup (da_cons (de_int) (da_cons (de_int) (da_nil)))) (da_cons (de_tup (da_cons (de_int) (da_cons (de_int) (da_nil)))) (da_cons (de_tup (da_cons (de_int) (da_cons (de_int) (da_nil)))) (da_cons (de_tup (da_cons (de_neg (de_int)) (da_cons (de_int) (da_nil)))) (da_nil)))))))))))))))
theorem ok__law_sizes_0 (F : Fc K mg) : DFn P w K mg base 1 (He.ga K "_law_sizes") [] (mdL none) g__law_sizes_0 := by
  obtain ⟨fd, D⟩ := F.d__law_sizes
  exact fd_pos D (fd_dfb D sc__law_sizes (db__law_sizes F)) rfl fun _ _ _ _ _ _ us hl => match us, hl with | [], _ => rfl
theorem db__law_size (F : Fc K mg) (cdv : Value) (A : Around) (outer : List Env) (s : Shared) (H : Hp) (hr : Room 1 (A.deeper (envOfC "_law_size" (defScope s__law_size) s.heap.objs.size (He.ga K "_law_size") cdv))) (hgd : (A.deeper (envOfC "_law_size" (defScope s__law_size) s.heap.objs.size (He.ga K "_law_size") cdv)).guards = some []) : DB (pmOf (mdL (some 0))) (cxB P w K mg base N__law_size "_law_size" (defScope s__law_size) (He.ga K "_law_size") cdv A outer s H) (defBody s__law_size) m__law_size :=
  have hu := hr.units
  have hu1 := hu_of hr
  db_one (ds_ret (de_ix dix (de_call0 (md := none) (ok__law_sizes_0 F) (hr.mono (by decide)) hgd (by rfl) F.g__law_sizes) (de_call (ks := []) (md := (some 0)) (ok__law_draw_2 F) (hr.mono (by decide)) hgd (by rfl) F.g__law_draw (da_cons (de_var (i := 0) rfl (by first | exact .inl rfl | exact .inr (.inl rfl) | exact .inr (.inr rfl))) (da_cons (de_int) (da_nil))) (dk_nil) (len_nil)) (fun _ _ => rfl)))
theorem ok__law_size_1 (F : Fc K mg) : DFn P w K mg base 2 (He.ga K "_law_size") [] (mdL (some 0)) g__law_size_1 := by
  obtain ⟨fd, D⟩ := F.d__law_size
  exact fd_pos D (fd_dfb D sc__law_size (db__law_size F)) rfl fun _ _ _ _ _ _ us hl => match us, hl with | [a0], _ => rfl
theorem db__law_three_right (F : Fc K mg) (cdv : Value) (A : Around) (outer : List Env) (s : Shared) (H : Hp) (hr : Room 3 (A.deeper (envOfC "_law_three_right" (defScope s__law_three_right) s.heap.objs.size (He.ga K "_law_three_right") cdv))) (hgd : (A.deeper (envOfC "_law_three_right" (defScope s__law_three_right) s.heap.objs.size (He.ga K "_law_three_right") cdv)).guards = some []) : DB (pmOf (mdL none)) (cxB P w K mg base N__law_three_right "_law_three_right" (defScope s__law_three_right) (He.ga K "_law_three_right") cdv A outer s H) (defBody s__law_three_right) m__law_three_right :=
  have hu := hr.units
  have hu1 := hu_of hr
  db_cons (ds_par rfl sc__law_three_right.nd rfl rfl (by decide) rfl rfl (da_cons (de_call (ks := []) (md := none) (ok_fraction_sum_s F) (hr.mono (by decide)) hgd (by rfl) F.g_fraction_sum (da_cons (de_var (i := 0) rfl (by first | exact .inl rfl | exact .inr (.inl rfl) | exact .inr (.inr rfl))) (da_cons (de_var (i := 1) rfl (by first | exact .inl rfl | exact .inr (.inl rfl) | exact .inr (.inr rfl))) (da_nil))) (dk_nil) (len_nil)) (da_cons (de_call (ks := []) (md := none) (ok_fraction_product_s F) (hr.mono (by decide)) hgd (by rfl) F.g_fraction_product (da_cons (de_var (i := 0) rfl (by first | exact .inl rfl | exact .inr (.inl rfl) | exact .inr (.inr rfl))) (da_cons (de_var (i := 1) rfl (by first | exact .inl rfl | exact .inr (.inl rfl) | exact .inr (.inr rfl))) (da_nil))) (dk_nil) (len_nil)) (da_nil))) rfl rfl rfl)
    (db_cons (ds_if (DW.dt (dw_or (dt_cmp (dop_ne hu) (de_call (ks := []) (md := none) (ok_fraction_sum_s F) (hr.mono (by decide)) hgd (by rfl) F.g_fraction_sum (da_cons (de_var (i := 1) rfl (by first | exact .inl rfl | exact .inr (.inl rfl) | exact .inr (.inr rfl))) (da_cons (de_var (i := 0) rfl (by first | exact .inl rfl | exact .inr (.inl rfl) | exact .inr (.inr rfl))) (da_nil))) (dk_nil) (len_nil)) (de_var (i := 3) rfl (by first | exact .inl rfl | exact .inr (.inl rfl) | exact .inr (.inr rfl))) (nomark _)) (dw_or1 (dt_cmp (dop_ne hu) (de_call (ks := []) (md := none) (ok_fraction_product_s F) (hr.mono (by decide)) hgd (by rfl) F.g_fraction_product (da_cons (de_var (i := 1) rfl (by first | exact .inl rfl | exact .inr (.inl rfl) | exact .inr (.inr rfl))) (da_cons (de_var (i := 0) rfl (by first | exact .inl rfl | exact .inr (.inl rfl) | exact .inr (.inr rfl))) (da_nil))) (dk_nil) (len_nil)) (de_var (i := 4) rfl (by first | exact .inl rfl | exact .inr (.inl rfl) | exact .inr (.inr rfl))) (nomark _))))) (db_one (ds_ret (de_bl))) (db_nil))
    (db_cons (ds_if (dt_not (dt_chain (dop_eq hu) (dop_eq hu) (de_call (ks := []) (md := none) (ok_fraction_sum_s F) (hr.mono (by decide)) hgd (by rfl) F.g_fraction_sum (da_cons (de_var (i := 3) rfl (by first | exact .inl rfl | exact .inr (.inl rfl) | exact .inr (.inr rfl))) (da_cons (de_var (i := 2) rfl (by first | exact .inl rfl | exact .inr (.inl rfl) | exact .inr (.inr rfl))) (da_nil))) (dk_nil) (len_nil)) (de_call (ks := []) (md := none) (ok_fraction_sum_s F) (hr.mono (by decide)) hgd (by rfl) F.g_fraction_sum (da_cons (de_var (i := 0) rfl (by first | exact .inl rfl | exact .inr (.inl rfl) | exact .inr (.inr rfl))) (da_cons (de_call (ks := []) (md := none) (ok_fraction_sum_s F) (hr.mono (by decide)) hgd (by rfl) F.g_fraction_sum (da_cons (de_var (i := 1) rfl (by first | exact .inl rfl | exact .inr (.inl rfl) | exact .inr (.inr rfl))) (da_cons (de_var (i := 2) rfl (by first | exact .inl rfl | exact .inr (.inl rfl) | exact .inr (.inr rfl))) (da_nil))) (dk_nil) (len_nil)) (da_nil))) (dk_nil) (len_nil)) (de_call (ks := []) (md := none) (ok_fraction_sum_s F) (hr.mono (by decide)) hgd (by rfl) F.g_fraction_sum (da_cons (de_var (i := 0) rfl (by first | exact .inl rfl | exact .inr (.inl rfl) | exact .inr (.inr rfl))) (da_cons (de_var (i := 1) rfl (by first | exact .inl rfl | exact .inr (.inl rfl) | exact .inr (.inr rfl))) (da_cons (de_var (i := 2) rfl (by first | exact .inl rfl | exact .inr (.inl rfl) | exact .inr (.inr rfl))) (da_nil)))) (dk_nil) (len_nil)))) (db_one (ds_ret (de_bl))) (db_nil))
    (db_cons (ds_if (dt_cmp (dop_ne hu) (de_call (ks := []) (md := none) (ok_fraction_product_s F) (hr.mono (by decide)) hgd (by rfl) F.g_fraction_product (da_cons (de_var (i := 4) rfl (by first | exact .inl rfl | exact .inr (.inl rfl) | exact .inr (.inr rfl))) (da_cons (de_var (i := 2) rfl (by first | exact .inl rfl | exact .inr (.inl rfl) | exact .inr (.inr rfl))) (da_nil))) (dk_nil) (len_nil)) (de_call (ks := []) (md := none) (ok_fraction_product_s F) (hr.mono (by decide)) hgd (by rfl) F.g_fraction_product (da_cons (de_var (i := 2) rfl (by first | exact .inl rfl | exact .inr (.inl rfl) | exact .inr (.inr rfl))) (da_cons (de_var (i := 1) rfl (by first | exact .inl rfl | exact .inr (.inl rfl) | exact .inr (.inr rfl))) (da_cons (de_var (i := 0) rfl (by first | exact .inl rfl | exact .inr (.inl rfl) | exact .inr (.inr rfl))) (da_nil)))) (dk_nil) (len_nil)) (nomark _)) (db_one (ds_ret (de_bl))) (db_nil))
    (db_cons (ds_if (dt_cmp (dop_ne hu) (de_call (ks := []) (md := none) (ok_fraction_product_s F) (hr.mono (by decide)) hgd (by rfl) F.g_fraction_product (da_cons (de_var (i := 3) rfl (by first | exact .inl rfl | exact .inr (.inl rfl) | exact .inr (.inr rfl))) (da_cons (de_var (i := 2) rfl (by first | exact .inl rfl | exact .inr (.inl rfl) | exact .inr (.inr rfl))) (da_nil))) (dk_nil) (len_nil)) (de_call (ks := []) (md := none) (ok_fraction_sum_s F) (hr.mono (by decide)) hgd (by rfl) F.g_fraction_sum (da_cons (de_call (ks := []) (md := none) (ok_fraction_product_s F) (hr.mono (by decide)) hgd (by rfl) F.g_fraction_product (da_cons (de_var (i := 0) rfl (by first | exact .inl rfl | exact .inr (.inl rfl) | exact .inr (.inr rfl))) (da_cons (de_var (i := 2) rfl (by first | exact .inl rfl | exact .inr (.inl rfl) | exact .inr (.inr rfl))) (da_nil))) (dk_nil) (len_nil)) (da_cons (de_call (ks := []) (md := none) (ok_fraction_product_s F) (hr.mono (by decide)) hgd (by rfl) F.g_fraction_product (da_cons (de_var (i := 1) rfl (by first | exact .inl rfl | exact .inr (.inl rfl) | exact .inr (.inr rfl))) (da_cons (de_var (i := 2) rfl (by first | exact .inl rfl | exact .inr (.inl rfl) | exact .inr (.inr rfl))) (da_nil))) (dk_nil) (len_nil)) (da_nil))) (dk_nil) (len_nil)) (nomark _)) (db_one (ds_ret (de_bl))) (db_nil))
    (db_cons (ds_if (DW.dt (dw_or (dt_cmp (dop_ne hu) (de_call (ks := []) (md := none) (ok_fraction_sum_s F) (hr.mono (by decide)) hgd (by rfl) F.g_fraction_sum (da_cons (de_var (i := 0) rfl (by first | exact .inl rfl | exact .inr (.inl rfl) | exact .inr (.inr rfl))) (da_cons (de_call0 (md := none) (ok_fraction_sum_s F) (hr.mono (by decide)) hgd (by rfl) F.g_fraction_sum) (da_nil))) (dk_nil) (len_nil)) (de_var (i := 0) rfl (by first | exact .inl rfl | exact .inr (.inl rfl) | exact .inr (.inr rfl))) (nomark _)) (dw_or1 (dt_cmp (dop_ne hu) (de_call (ks := []) (md := none) (ok_fraction_product_s F) (hr.mono (by decide)) hgd (by rfl) F.g_fraction_product (da_cons (de_var (i := 0) rfl (by first | exact .inl rfl | exact .inr (.inl rfl) | exact .inr (.inr rfl))) (da_cons (de_call0 (md := none) (ok_fraction_product_s F) (hr.mono (by decide)) hgd (by rfl) F.g_fraction_product) (da_nil))) (dk_nil) (len_nil)) (de_var (i := 0) rfl (by first | exact .inl rfl | exact .inr (.inl rfl) | exact .inr (.inr rfl))) (nomark _))))) (db_one (ds_ret (de_bl))) (db_nil))
    (db_cons (ds_if (DW.dt (dw_or (dt_cmp (dop_ne hu) (de_call (ks := []) (md := none) (ok_fraction_sum_s F) (hr.mono (by decide)) hgd (by rfl) F.g_fraction_sum (da_cons (de_var (i := 0) rfl (by first | exact .inl rfl | exact .inr (.inl rfl) | exact .inr (.inr rfl))) (da_cons (de_call (ks := []) (md := none) (ok_fraction_product_s F) (hr.mono (by decide)) hgd (by rfl) F.g_fraction_product (da_cons (de_tup (da_cons (de_neg (de_int)) (da_cons (de_int) (da_nil)))) (da_cons (de_var (i := 0) rfl (by first | exact .inl rfl | exact .inr (.inl rfl) | exact .inr (.inr rfl))) (da_nil))) (dk_nil) (len_nil)) (da_nil))) (dk_nil) (len_nil)) (de_tup (da_cons (de_int) (da_cons (de_int) (da_nil)))) (nomark _)) (dw_or1 (dt_cmp (dop_ne hu) (de_call (ks := []) (md := none) (ok_fraction_product_s F) (hr.mono (by decide)) hgd (by rfl) F.g_fraction_product (da_cons (de_var (i := 0) rfl (by first | exact .inl rfl | exact .inr (.inl rfl) | exact .inr (.inr rfl))) (da_cons (de_tup (da_cons (de_int) (da_cons (de_int) (da_nil)))) (da_nil))) (dk_nil) (len_nil)) (de_tup (da_cons (de_int) (da_cons (de_int) (da_nil)))) (nomark _))))) (db_one (ds_ret (de_bl))) (db_nil))
    (db_cons (ds_if (DW.dt (dw_and (dt_chain dop_lt dop_lt (de_int) (de_callB dcl_abs (by rfl) F.b_abs bt_abs (da_cons (de_ix dix (de_var (i := 0) rfl (by first | exact .inl rfl | exact .inr (.inl rfl) | exact .inr (.inr rfl))) (de_int) (fun _ _ => rfl)) (da_nil))) (de_int)) (dw_and1 (dt_cmp (dop_ne hu) (de_call (ks := []) (md := none) (ok_fraction_product_s F) (hr.mono (by decide)) hgd (by rfl) F.g_fraction_product (da_cons (de_var (i := 0) rfl (by first | exact .inl rfl | exact .inr (.inl rfl) | exact .inr (.inr rfl))) (da_cons (de_call (ks := []) (md := none) (ok_fraction_2 F) (hr.mono (by decide)) hgd (by rfl) F.g_fraction (da_cons (de_ix dix (de_var (i := 0) rfl (by first | exact .inl rfl | exact .inr (.inl rfl) | exact .inr (.inr rfl))) (de_int) (fun _ _ => rfl)) (da_cons (de_ix dix (de_var (i := 0) rfl (by first | exact .inl rfl | exact .inr (.inl rfl) | exact .inr (.inr rfl))) (de_int) (fun _ _ => rfl)) (da_nil))) (dk_nil) (len_nil)) (da_nil))) (dk_nil) (len_nil)) (de_tup (da_cons (de_int) (da_cons (de_int) (da_nil)))) (nomark _))))) (db_one (ds_ret (de_bl))) (db_nil))
    (db_one (ds_ret (de_cmp (dop_eq hu) (de_lc (own := [("_law_one", 5)]) rfl sc__law_three_right.nd (di_seq (de_tup (da_cons (de_var (i := 3) rfl (by first | exact .inl rfl | exact .inr (.inl rfl) | exact .inr (.inr rfl))) (da_cons (de_var (i := 4) rfl (by first | exact .inl rfl | exact .inr (.inl rfl) | exact .inr (.inr rfl))) (da_cons (de_call (ks := []) (md := none) (ok_fraction_sum_s F) (hr.mono (by decide)) hgd (by rfl) F.g_fraction_sum (da_cons (de_var (i := 0) rfl (by first | exact .inl rfl | exact .inr (.inl rfl) | exact .inr (.inr rfl))) (da_cons (de_var (i := 1) rfl (by first | exact .inl rfl | exact .inr (.inl rfl) | exact .inr (.inr rfl))) (da_cons (de_var (i := 2) rfl (by first | exact .inl rfl | exact .inr (.inl rfl) | exact .inr (.inr rfl))) (da_nil)))) (dk_nil) (len_nil)) (da_nil)))))) (blkOk_by (own := [("_law_one", 5)]) (N := N__law_three_right) (sc := defScope s__law_three_right) (by decide +kernel)) (fun _ _ _ _ _ => dg_name (i := 5) sc__law_three_right.nd rfl (by first | exact .inl rfl | exact .inr rfl) rfl) (difs_one (fun _ _ _ _ _ => dt_not (dt_val (de_call (ks := []) (md := none) (ok_is_fraction_1 F) (hr.mono (by decide)) hgd (by rfl) F.g_is_fraction (da_cons (de_var (i := 5) rfl (by first | exact .inl rfl | exact .inr (.inl rfl) | exact .inr (.inr rfl))) (da_nil)) (dk_nil) (len_nil))))) (fun _ _ _ _ _ => de_var (i := 5) rfl (by first | exact .inl rfl | exact .inr (.inl rfl) | exact .inr (.inr rfl)))) (de_lst (da_nil)) (nomark _)))))))))))
theorem ok__law_three_right_3 (F : Fc K mg) : DFn P w K mg base 4 (He.ga K "_law_three_right") [] (mdL none) g__law_three_right_3 := by
  obtain ⟨fd, D⟩ := F.d__law_three_right
  exact fd_pos D (fd_dfb D sc__law_three_right (db__law_three_right F)) rfl fun _ _ _ _ _ _ us hl => match us, hl with | [a0, a1, a2], _ => rfl
theorem db_compared (F : Fc K mg) (cdv : Value) (A : Around) (outer : List Env) (s : Shared) (H : Hp) (hr : Room 0 (A.deeper (envOfC "compared" (defScope s_compared) s.heap.objs.size (He.ga K "compared") cdv))) (hgd : (A.deeper (envOfC "compared" (defScope s_compared) s.heap.objs.size (He.ga K "compared") cdv)).guards = some []) : DB (pmOf (mdL none)) (cxB P w K mg base N_compared "compared" (defScope s_compared) (He.ga K "compared") cdv A outer s H) (defBody s_compared) m_compared :=
  have hu := hr.units
  have hu1 := hu_of hr
  db_cons (ds_set (i := 2) sc_compared.nd rfl (by first | exact .inl rfl | exact .inr rfl) (de_op dop_mul (de_ix dix (de_var (i := 0) rfl (by first | exact .inl rfl | exact .inr (.inl rfl) | exact .inr (.inr rfl))) (de_int) (fun _ _ => rfl)) (de_ix dix (de_var (i := 1) rfl (by first | exact .inl rfl | exact .inr (.inl rfl) | exact .inr (.inr rfl))) (de_int) (fun _ _ => rfl))) rfl)
    (db_cons (ds_set (i := 3) sc_compared.nd rfl (by first | exact .inl rfl | exact .inr rfl) (de_op dop_mul (de_ix dix (de_var (i := 1) rfl (by first | exact .inl rfl | exact .inr (.inl rfl) | exact .inr (.inr rfl))) (de_int) (fun _ _ => rfl)) (de_ix dix (de_var (i := 0) rfl (by first | exact .inl rfl | exact .inr (.inl rfl) | exact .inr (.inr rfl))) (de_int) (fun _ _ => rfl))) rfl)
    (db_cons (ds_if (dt_cmp (dop_eq hu) (de_var (i := 2) rfl (by first | exact .inl rfl | exact .inr (.inl rfl) | exact .inr (.inr rfl))) (de_var (i := 3) rfl (by first | exact .inl rfl | exact .inr (.inl rfl) | exact .inr (.inr rfl))) (nomark _)) (db_one (ds_ret (de_int))) (db_nil))
    (db_one (ds_ret (de_if (dt_cmp dop_lt (de_var (i := 2) rfl (by first | exact .inl rfl | exact .inr (.inl rfl) | exact .inr (.inr rfl))) (de_var (i := 3) rfl (by first | exact .inl rfl | exact .inr (.inl rfl) | exact .inr (.inr rfl))) (nomark _)) (de_neg (de_int)) (de_int))))))
theorem ok_compared_2 (F : Fc K mg) : DFn P w K mg base 1 (He.ga K "compared") [] (mdL none) g_compared_2 := by
  obtain ⟨fd, D⟩ := F.d_compared
  exact fd_pos D (fd_dfb D sc_compared (db_compared F)) rfl fun _ _ _ _ _ _ us hl => match us, hl with | [a0, a1], _ => rfl
theorem db__law_order_right (F : Fc K mg) (cdv : Value) (A : Around) (outer : List Env) (s : Shared) (H : Hp) (hr : Room 3 (A.deeper (envOfC "_law_order_right" (defScope s__law_order_right) s.heap.objs.size (He.ga K "_law_order_right") cdv))) (hgd : (A.deeper (envOfC "_law_order_right" (defScope s__law_order_right) s.heap.objs.size (He.ga K "_law_order_right") cdv)).guards = some []) : DB (pmOf (mdL none)) (cxB P w K mg base N__law_order_right "_law_order_right" (defScope s__law_order_right) (He.ga K "_law_order_right") cdv A outer s H) (defBody s__law_order_right) m__law_order_right :=
  have hu := hr.units
  have hu1 := hu_of hr
  db_cons (ds_set (i := 3) sc__law_order_right.nd rfl (by first | exact .inl rfl | exact .inr rfl) (de_call (ks := []) (md := none) (ok_compared_2 F) (hr.mono (by decide)) hgd (by rfl) F.g_compared (da_cons (de_var (i := 0) rfl (by first | exact .inl rfl | exact .inr (.inl rfl) | exact .inr (.inr rfl))) (da_cons (de_var (i := 1) rfl (by first | exact .inl rfl | exact .inr (.inl rfl) | exact .inr (.inr rfl))) (da_nil))) (dk_nil) (len_nil)) rfl)
    (db_cons (ds_if (DW.dt (dw_or (dt_cmp (dop_notInT hu) (de_var (i := 3) rfl (by first | exact .inl rfl | exact .inr (.inl rfl) | exact .inr (.inr rfl))) (de_tup (da_cons (de_neg (de_int)) (da_cons (de_int) (da_cons (de_int) (da_nil))))) (by with_unfolding_all rfl)) (dw_or (dt_cmp (dop_ne hu) (de_call (ks := []) (md := none) (ok_compared_2 F) (hr.mono (by decide)) hgd (by rfl) F.g_compared (da_cons (de_var (i := 1) rfl (by first | exact .inl rfl | exact .inr (.inl rfl) | exact .inr (.inr rfl))) (da_cons (de_var (i := 0) rfl (by first | exact .inl rfl | exact .inr (.inl rfl) | exact .inr (.inr rfl))) (da_nil))) (dk_nil) (len_nil)) (de_op dop_sub (de_int) (de_var (i := 3) rfl (by first | exact .inl rfl | exact .inr (.inl rfl) | exact .inr (.inr rfl)))) (nomark _)) (dw_or1 (dt_cmp (dop_ne hu) (de_cmp (dop_eq hu) (de_var (i := 3) rfl (by first | exact .inl rfl | exact .inr (.inl rfl) | exact .inr (.inr rfl))) (de_int) (nomark _)) (de_cmp (dop_eq hu) (de_var (i := 0) rfl (by first | exact .inl rfl | exact .inr (.inl rfl) | exact .inr (.inr rfl))) (de_var (i := 1) rfl (by first | exact .inl rfl | exact .inr (.inl rfl) | exact .inr (.inr rfl))) (nomark _)) (nomark _)))))) (db_one (ds_ret (de_bl))) (db_nil))
    (db_cons (ds_if (dt_cmp (dop_ne hu) (de_call (ks := []) (md := none) (ok_compared_2 F) (hr.mono (by decide)) hgd (by rfl) F.g_compared (da_cons (de_call (ks := []) (md := none) (ok_fraction_sum_s F) (hr.mono (by decide)) hgd (by rfl) F.g_fraction_sum (da_cons (de_var (i := 0) rfl (by first | exact .inl rfl | exact .inr (.inl rfl) | exact .inr (.inr rfl))) (da_cons (de_var (i := 2) rfl (by first | exact .inl rfl | exact .inr (.inl rfl) | exact .inr (.inr rfl))) (da_nil))) (dk_nil) (len_nil)) (da_cons (de_call (ks := []) (md := none) (ok_fraction_sum_s F) (hr.mono (by decide)) hgd (by rfl) F.g_fraction_sum (da_cons (de_var (i := 1) rfl (by first | exact .inl rfl | exact .inr (.inl rfl) | exact .inr (.inr rfl))) (da_cons (de_var (i := 2) rfl (by first | exact .inl rfl | exact .inr (.inl rfl) | exact .inr (.inr rfl))) (da_nil))) (dk_nil) (len_nil)) (da_nil))) (dk_nil) (len_nil)) (de_var (i := 3) rfl (by first | exact .inl rfl | exact .inr (.inl rfl) | exact .inr (.inr rfl))) (nomark _)) (db_one (ds_ret (de_bl))) (db_nil))
    (db_cons (ds_if (dt_cmp (dop_ne hu) (de_call (ks := []) (md := none) (ok_compared_2 F) (hr.mono (by decide)) hgd (by rfl) F.g_compared (da_cons (de_call (ks := []) (md := none) (ok_fraction_product_s F) (hr.mono (by decide)) hgd (by rfl) F.g_fraction_product (da_cons (de_var (i := 0) rfl (by first | exact .inl rfl | exact .inr (.inl rfl) | exact .inr (.inr rfl))) (da_cons (de_var (i := 2) rfl (by first | exact .inl rfl | exact .inr (.inl rfl) | exact .inr (.inr rfl))) (da_nil))) (dk_nil) (len_nil)) (da_cons (de_call (ks := []) (md := none) (ok_fraction_product_s F) (hr.mono (by decide)) hgd (by rfl) F.g_fraction_product (da_cons (de_var (i := 1) rfl (by first | exact .inl rfl | exact .inr (.inl rfl) | exact .inr (.inr rfl))) (da_cons (de_var (i := 2) rfl (by first | exact .inl rfl | exact .inr (.inl rfl) | exact .inr (.inr rfl))) (da_nil))) (dk_nil) (len_nil)) (da_nil))) (dk_nil) (len_nil)) (de_op dop_mul (de_var (i := 3) rfl (by first | exact .inl rfl | exact .inr (.inl rfl) | exact .inr (.inr rfl))) (de_call (ks := []) (md := none) (ok_compared_2 F) (hr.mono (by decide)) hgd (by rfl) F.g_compared (da_cons (de_var (i := 2) rfl (by first | exact .inl rfl | exact .inr (.inl rfl) | exact .inr (.inr rfl))) (da_cons (de_tup (da_cons (de_int) (da_cons (de_int) (da_nil)))) (da_nil))) (dk_nil) (len_nil))) (nomark _)) (db_one (ds_ret (de_bl))) (db_nil))
    (db_cons (ds_if (DW.dt (dw_and (dt_cmp dop_lt (de_var (i := 3) rfl (by first | exact .inl rfl | exact .inr (.inl rfl) | exact .inr (.inr rfl))) (de_int) (nomark _)) (dw_and (dt_cmp dop_lt (de_call (ks := []) (md := none) (ok_compared_2 F) (hr.mono (by decide)) hgd (by rfl) F.g_compared (da_cons (de_var (i := 1) rfl (by first | exact .inl rfl | exact .inr (.inl rfl) | exact .inr (.inr rfl))) (da_cons (de_var (i := 2) rfl (by first | exact .inl rfl | exact .inr (.inl rfl) | exact .inr (.inr rfl))) (da_nil))) (dk_nil) (len_nil)) (de_int) (nomark _)) (dw_and1 (dt_cmp dop_gt (de_call (ks := []) (md := none) (ok_compared_2 F) (hr.mono (by decide)) hgd (by rfl) F.g_compared (da_cons (de_var (i := 0) rfl (by first | exact .inl rfl | exact .inr (.inl rfl) | exact .inr (.inr rfl))) (da_cons (de_var (i := 2) rfl (by first | exact .inl rfl | exact .inr (.inl rfl) | exact .inr (.inr rfl))) (da_nil))) (dk_nil) (len_nil)) (de_int) (nomark _)))))) (db_one (ds_ret (de_bl))) (db_nil))
    (db_one (ds_ret (de_cmp (dop_eq hu) (de_call (ks := []) (md := none) (ok_compared_2 F) (hr.mono (by decide)) hgd (by rfl) F.g_compared (da_cons (de_call (ks := []) (md := none) (ok_fraction_sum_s F) (hr.mono (by decide)) hgd (by rfl) F.g_fraction_sum (da_cons (de_var (i := 0) rfl (by first | exact .inl rfl | exact .inr (.inl rfl) | exact .inr (.inr rfl))) (da_cons (de_call (ks := []) (md := none) (ok_fraction_product_s F) (hr.mono (by decide)) hgd (by rfl) F.g_fraction_product (da_cons (de_tup (da_cons (de_neg (de_int)) (da_cons (de_int) (da_nil)))) (da_cons (de_var (i := 1) rfl (by first | exact .inl rfl | exact .inr (.inl rfl) | exact .inr (.inr rfl))) (da_nil))) (dk_nil) (len_nil)) (da_nil))) (dk_nil) (len_nil)) (da_cons (de_call0 (md := none) (ok_fraction_sum_s F) (hr.mono (by decide)) hgd (by rfl) F.g_fraction_sum) (da_nil))) (dk_nil) (len_nil)) (de_var (i := 3) rfl (by first | exact .inl rfl | exact .inr (.inl rfl) | exact .inr (.inr rfl))) (nomark _))))))))
theorem ok__law_order_right_3 (F : Fc K mg) : DFn P w K mg base 4 (He.ga K "_law_order_right") [] (mdL none) g__law_order_right_3 := by
  obtain ⟨fd, D⟩ := F.d__law_order_right
  exact fd_pos D (fd_dfb D sc__law_order_right (db__law_order_right F)) rfl fun _ _ _ _ _ _ us hl => match us, hl with | [a0, a1, a2], _ => rfl
theorem db_integer_text (F : Fc K mg) {k : Nat} (hk : 0 ≤ k) {r : FF} (R_1 : DFn P w K mg base k (He.ga K "integer_text") [] (mdL none) r) (cdv : Value) (A : Around) (outer : List Env) (s : Shared) (H : Hp) (hr : Room k (A.deeper (envOfC "integer_text" (defScope s_integer_text) s.heap.objs.size (He.ga K "integer_text") cdv))) (hgd : (A.deeper (envOfC "integer_text" (defScope s_integer_text) s.heap.objs.size (He.ga K "integer_text") cdv)).guards = some []) : DB (pmOf (mdL none)) (cxB P w K mg base N_integer_text "integer_text" (defScope s_integer_text) (He.ga K "integer_text") cdv A outer s H) (defBody s_integer_text) (m_integer_text r) :=
  have hu := hr.units
  have hu1 := hu_of hr
  db_cons (ds_if (dt_cmp dop_lt (de_var (i := 0) rfl (by first | exact .inl rfl | exact .inr (.inl rfl) | exact .inr (.inr rfl))) (de_int) (nomark _)) (db_one (ds_ret (de_fst (dj_cons (de_str) (dj_cons (de_fmt (de_call (ks := []) (md := none) R_1 hr hgd (by rfl) F.g_integer_text (da_cons (de_neg (de_var (i := 0) rfl (by first | exact .inl rfl | exact .inr (.inl rfl) | exact .inr (.inr rfl)))) (da_nil)) (dk_nil) (len_nil))) (dj_nil)))))) (db_nil))
    (db_cons (ds_set (i := 1) sc_integer_text.nd rfl (by first | exact .inl rfl | exact .inr rfl) (de_lst (da_nil)) rfl)
    (db_cons (ds_while 2000 PassesOwn.never (dt_cmp dop_ge (de_var (i := 0) rfl (by first | exact .inl rfl | exact .inr (.inl rfl) | exact .inr (.inr rfl))) (de_gint (by rfl) F.i_CHUNK) (nomark _)) (db_never))
    (db_one (ds_ret (de_op dop_add (de_callTy dcl_str (by rfl) F.b_str bt_str (da_cons (de_var (i := 0) rfl (by first | exact .inl rfl | exact .inr (.inl rfl) | exact .inr (.inr rfl))) (da_nil))) (de_jrv rfl (de_str) (by rfl) F.b_reversed (de_var (i := 1) rfl (by first | exact .inl rfl | exact .inr (.inl rfl) | exact .inr (.inr rfl)))))))))
theorem dh_integer_text (F : Fc K mg) {fd : FuncData} (D : FunD K "integer_text" "integer_text" (defArgs s_integer_text) (defBody s_integer_text) (defScope s_integer_text) [] [] (He.ga K "integer_text") fd) : ∀ n : Nat, DFb P w K mg base (0 + n) (He.ga K "integer_text") fd ["integer"] (mdL none) (h_integer_text n)
  | 0 => DFb.none
  | n + 1 => fd_dfb D sc_integer_text fun cdv A outer s H hr hgd => db_integer_text F (Nat.le_add_right _ _) (fd_posG D (dh_integer_text F D n) (hl_integer_text n) fun _ _ _ _ _ _ us hl => match us, hl with | [a0], _ => rfl) cdv A outer s H hr hgd
theorem ok_integer_text_1 (F : Fc K mg) : DFn P w K mg base 2 (He.ga K "integer_text") [] (mdL none) g_integer_text_1 := by
  obtain ⟨fd, D⟩ := F.d_integer_text
  exact fd_posG D (dh_integer_text F D 2) (hl_integer_text 2) fun _ _ _ _ _ _ us hl => match us, hl with | [a0], _ => rfl
theorem db_fraction_text (F : Fc K mg) (cdv : Value) (A : Around) (outer : List Env) (s : Shared) (H : Hp) (hr : Room 2 (A.deeper (envOfC "fraction_text" (defScope s_fraction_text) s.heap.objs.size (He.ga K "fraction_text") cdv))) (hgd : (A.deeper (envOfC "fraction_text" (defScope s_fraction_text) s.heap.objs.size (He.ga K "fraction_text") cdv)).guards = some []) : DB (pmOf (mdL none)) (cxB P w K mg base N_fraction_text "fraction_text" (defScope s_fraction_text) (He.ga K "fraction_text") cdv A outer s H) (defBody s_fraction_text) m_fraction_text :=
  have hu := hr.units
  have hu1 := hu_of hr
  db_cons (ds_asg (de_var (i := 0) rfl (by first | exact .inl rfl | exact .inr (.inl rfl) | exact .inr (.inr rfl))) (dg_tup rfl (dgs_cons (dg_name (i := 1) sc_fraction_text.nd rfl (by first | exact .inl rfl | exact .inr rfl) rfl) (dgs_cons (dg_name (i := 2) sc_fraction_text.nd rfl (by first | exact .inl rfl | exact .inr rfl) rfl) (dgs_nil))) (gl_cons (gl_cons (gl_nil)))))
    (db_cons (ds_if (dt_cmp (dop_eq hu) (de_var (i := 2) rfl (by first | exact .inl rfl | exact .inr (.inl rfl) | exact .inr (.inr rfl))) (de_int) (nomark _)) (db_one (ds_ret (de_call (ks := []) (md := none) (ok_integer_text_1 F) (hr.mono (by decide)) hgd (by rfl) F.g_integer_text (da_cons (de_var (i := 1) rfl (by first | exact .inl rfl | exact .inr (.inl rfl) | exact .inr (.inr rfl))) (da_nil)) (dk_nil) (len_nil)))) (db_nil))
    (db_one (ds_ret (de_fst (dj_cons (de_fmt (de_call (ks := []) (md := none) (ok_integer_text_1 F) (hr.mono (by decide)) hgd (by rfl) F.g_integer_text (da_cons (de_var (i := 1) rfl (by first | exact .inl rfl | exact .inr (.inl rfl) | exact .inr (.inr rfl))) (da_nil)) (dk_nil) (len_nil))) (dj_cons (de_str) (dj_cons (de_fmt (de_call (ks := []) (md := none) (ok_integer_text_1 F) (hr.mono (by decide)) hgd (by rfl) F.g_integer_text (da_cons (de_var (i := 2) rfl (by first | exact .inl rfl | exact .inr (.inl rfl) | exact .inr (.inr rfl))) (da_nil)) (dk_nil) (len_nil))) (dj_nil))))))))
theorem ok_fraction_text_1 (F : Fc K mg) : DFn P w K mg base 3 (He.ga K "fraction_text") [] (mdL none) g_fraction_text_1 := by
  obtain ⟨fd, D⟩ := F.d_fraction_text
  exact fd_pos D (fd_dfb D sc_fraction_text (db_fraction_text F)) rfl fun _ _ _ _ _ _ us hl => match us, hl with | [a0], _ => rfl
theorem db_are_digits (F : Fc K mg) (cdv : Value) (A : Around) (outer : List Env) (s : Shared) (H : Hp) (hr : Room 0 (A.deeper (envOfC "are_digits" (defScope s_are_digits) s.heap.objs.size (He.ga K "are_digits") cdv))) (hgd : (A.deeper (envOfC "are_digits" (defScope s_are_digits) s.heap.objs.size (He.ga K "are_digits") cdv)).guards = some []) : DB (pmOf (mdL none)) (cxB P w K mg base N_are_digits "are_digits" (defScope s_are_digits) (He.ga K "are_digits") cdv A outer s H) (defBody s_are_digits) m_are_digits :=
  have hu := hr.units
  have hu1 := hu_of hr
  db_one (ds_ret (de_and (de_chain dop_le dop_le (de_int) (de_callB dcl_len (by rfl) F.b_len bt_len (da_cons (de_var (i := 0) rfl (by first | exact .inl rfl | exact .inr (.inl rfl) | exact .inr (.inr rfl))) (da_nil))) (de_gint (by rfl) F.i_MOST_DIGITS)) (de_one (de_callB (dcl_all rfl) (by rfl) F.b_all bt_all (da_cons (de_lc (own := [("digit", 1)]) rfl sc_are_digits.nd (di_seq (de_var (i := 0) rfl (by first | exact .inl rfl | exact .inr (.inl rfl) | exact .inr (.inr rfl)))) (blkOk_by (own := [("digit", 1)]) (N := N_are_digits) (sc := defScope s_are_digits) (by decide +kernel)) (fun _ _ _ _ _ => dg_name (i := 1) sc_are_digits.nd rfl (by first | exact .inl rfl | exact .inr rfl) rfl) (difs_nil) (fun _ _ _ _ _ => de_chain dop_le dop_le (de_str) (de_var (i := 1) rfl (by first | exact .inl rfl | exact .inr (.inl rfl) | exact .inr (.inr rfl))) (de_str))) (da_nil))))))
theorem ok_are_digits_1 (F : Fc K mg) : DFn P w K mg base 1 (He.ga K "are_digits") [] (mdL none) g_are_digits_1 := by
  obtain ⟨fd, D⟩ := F.d_are_digits
  exact fd_pos D (fd_dfb D sc_are_digits (db_are_digits F)) rfl fun _ _ _ _ _ _ us hl => match us, hl with | [a0], _ => rfl
theorem db_fraction_or_none (F : Fc K mg) (cdv : Value) (A : Around) (outer : List Env) (s : Shared) (H : Hp) (hr : Room 3 (A.deeper (envOfC "fraction_or_none" (defScope s_fraction_or_none) s.heap.objs.size (He.ga K "fraction_or_none") cdv))) (hgd : (A.deeper (envOfC "fraction_or_none" (defScope s_fraction_or_none) s.heap.objs.size (He.ga K "fraction_or_none") cdv)).guards = some []) : DB (pmOf (mdL none)) (cxB P w K mg base N_fraction_or_none "fraction_or_none" (defScope s_fraction_or_none) (He.ga K "fraction_or_none") cdv A outer s H) (defBody s_fraction_or_none) m_fraction_or_none :=
  have hu := hr.units
  have hu1 := hu_of hr
  db_cons (ds_asg (de_ptn (de_var (i := 0) rfl (by first | exact .inl rfl | exact .inr (.inl rfl) | exact .inr (.inr rfl))) (de_str)) (dg_tup rfl (dgs_cons (dg_name (i := 1) sc_fraction_or_none.nd rfl (by first | exact .inl rfl | exact .inr rfl) rfl) (dgs_cons (dg_name (i := 2) sc_fraction_or_none.nd rfl (by first | exact .inl rfl | exact .inr rfl) rfl) (dgs_cons (dg_name (i := 3) sc_fraction_or_none.nd rfl (by first | exact .inl rfl | exact .inr rfl) rfl) (dgs_nil)))) (gl_cons (gl_cons (gl_cons (gl_nil))))))
    (db_cons (ds_if (dt_cmp (dop_eq hu) (de_var (i := 2) rfl (by first | exact .inl rfl | exact .inr (.inl rfl) | exact .inr (.inr rfl))) (de_str) (nomark _)) (db_one (ds_set (i := 3) sc_fraction_or_none.nd rfl (by first | exact .inl rfl | exact .inr rfl) (de_str) rfl)) (db_nil))
    (db_cons (ds_if (DW.dt (dw_or (dt_not (dt_val (de_call (ks := []) (md := none) (ok_are_digits_1 F) (hr.mono (by decide)) hgd (by rfl) F.g_are_digits (da_cons (de_rmp (de_var (i := 1) rfl (by first | exact .inl rfl | exact .inr (.inl rfl) | exact .inr (.inr rfl))) (de_str)) (da_nil)) (dk_nil) (len_nil)))) (dw_or1 (dt_not (dt_val (de_call (ks := []) (md := none) (ok_are_digits_1 F) (hr.mono (by decide)) hgd (by rfl) F.g_are_digits (da_cons (de_var (i := 3) rfl (by first | exact .inl rfl | exact .inr (.inl rfl) | exact .inr (.inr rfl))) (da_nil)) (dk_nil) (len_nil))))))) (db_one (ds_ret (de_non))) (db_nil))
    (db_cons (ds_set (i := 4) sc_fraction_or_none.nd rfl (by first | exact .inl rfl | exact .inr rfl) (de_tup (da_cons (de_callTy dcl_intS (by rfl) F.b_int bt_int (da_cons (de_var (i := 1) rfl (by first | exact .inl rfl | exact .inr (.inl rfl) | exact .inr (.inr rfl))) (da_nil))) (da_cons (de_callTy dcl_intS (by rfl) F.b_int bt_int (da_cons (de_var (i := 3) rfl (by first | exact .inl rfl | exact .inr (.inl rfl) | exact .inr (.inr rfl))) (da_nil))) (da_nil)))) rfl)
    (db_cons (ds_if (DW.dt (dw_and (dt_val (de_call (ks := []) (md := none) (ok_is_fraction_1 F) (hr.mono (by decide)) hgd (by rfl) F.g_is_fraction (da_cons (de_var (i := 4) rfl (by first | exact .inl rfl | exact .inr (.inl rfl) | exact .inr (.inr rfl))) (da_nil)) (dk_nil) (len_nil))) (dw_and1 (dt_cmp (dop_eq hu) (de_call (ks := []) (md := none) (ok_fraction_text_1 F) (hr.mono (by decide)) hgd (by rfl) F.g_fraction_text (da_cons (de_var (i := 4) rfl (by first | exact .inl rfl | exact .inr (.inl rfl) | exact .inr (.inr rfl))) (da_nil)) (dk_nil) (len_nil)) (de_var (i := 0) rfl (by first | exact .inl rfl | exact .inr (.inl rfl) | exact .inr (.inr rfl))) (nomark _))))) (db_one (ds_ret (de_var (i := 4) rfl (by first | exact .inl rfl | exact .inr (.inl rfl) | exact .inr (.inr rfl))))) (db_nil))
    (db_one (ds_ret (de_non)))))))
theorem ok_fraction_or_none_1 (F : Fc K mg) : DFn P w K mg base 4 (He.ga K "fraction_or_none") [] (mdL none) g_fraction_or_none_1 := by
  obtain ⟨fd, D⟩ := F.d_fraction_or_none
  exact fd_pos D (fd_dfb D sc_fraction_or_none (db_fraction_or_none F)) rfl fun _ _ _ _ _ _ us hl => match us, hl with | [a0], _ => rfl
theorem db_fraction_read (F : Fc K mg) (cdv : Value) (A : Around) (outer : List Env) (s : Shared) (H : Hp) (hr : Room 4 (A.deeper (envOfC "fraction_read" (defScope s_fraction_read) s.heap.objs.size (He.ga K "fraction_read") cdv))) (hgd : (A.deeper (envOfC "fraction_read" (defScope s_fraction_read) s.heap.objs.size (He.ga K "fraction_read") cdv)).guards = some []) : DB (pmOf (mdL none)) (cxB P w K mg base N_fraction_read "fraction_read" (defScope s_fraction_read) (He.ga K "fraction_read") cdv A outer s H) (defBody s_fraction_read) m_fraction_read :=
  have hu := hr.units
  have hu1 := hu_of hr
  db_cons (ds_set (i := 1) sc_fraction_read.nd rfl (by first | exact .inl rfl | exact .inr rfl) (de_call (ks := []) (md := none) (ok_fraction_or_none_1 F) (hr.mono (by decide)) hgd (by rfl) F.g_fraction_or_none (da_cons (de_var (i := 0) rfl (by first | exact .inl rfl | exact .inr (.inl rfl) | exact .inr (.inr rfl))) (da_nil)) (dk_nil) (len_nil)) rfl)
    (db_cons (ds_if (dt_cmp dop_is (de_var (i := 1) rfl (by first | exact .inl rfl | exact .inr (.inl rfl) | exact .inr (.inr rfl))) (de_non) (nomark _)) (db_one (ds_never)) (db_nil))
    (db_one (ds_ret (de_var (i := 1) rfl (by first | exact .inl rfl | exact .inr (.inl rfl) | exact .inr (.inr rfl))))))
theorem ok_fraction_read_1 (F : Fc K mg) : DFn P w K mg base 5 (He.ga K "fraction_read") [] (mdL none) g_fraction_read_1 := by
  obtain ⟨fd, D⟩ := F.d_fraction_read
  exact fd_pos D (fd_dfb D sc_fraction_read (db_fraction_read F)) rfl fun _ _ _ _ _ _ us hl => match us, hl with | [a0], _ => rfl
theorem db__law_text_right (F : Fc K mg) (cdv : Value) (A : Around) (outer : List Env) (s : Shared) (H : Hp) (hr : Room 5 (A.deeper (envOfC "_law_text_right" (defScope s__law_text_right) s.heap.objs.size (He.ga K "_law_text_right") cdv))) (hgd : (A.deeper (envOfC "_law_text_right" (defScope s__law_text_right) s.heap.objs.size (He.ga K "_law_text_right") cdv)).guards = some []) : DB (pmOf (mdL none)) (cxB P w K mg base N__law_text_right "_law_text_right" (defScope s__law_text_right) (He.ga K "_law_text_right") cdv A outer s H) (defBody s__law_text_right) m__law_text_right :=
  have hu := hr.units
  have hu1 := hu_of hr
  db_cons (ds_setLc (i := 2) (own := [("_law_one", 3)]) rfl sc__law_text_right.nd rfl rfl rfl (sw_true rfl rfl rfl (by decide +kernel)) (di_seq (de_tup (da_cons (de_var (i := 0) rfl (by first | exact .inl rfl | exact .inr (.inl rfl) | exact .inr (.inr rfl))) (da_cons (de_var (i := 1) rfl (by first | exact .inl rfl | exact .inr (.inl rfl) | exact .inr (.inr rfl))) (da_cons (de_call (ks := []) (md := none) (ok_fraction_sum_s F) (hr.mono (by decide)) hgd (by rfl) F.g_fraction_sum (da_cons (de_var (i := 0) rfl (by first | exact .inl rfl | exact .inr (.inl rfl) | exact .inr (.inr rfl))) (da_cons (de_var (i := 1) rfl (by first | exact .inl rfl | exact .inr (.inl rfl) | exact .inr (.inr rfl))) (da_nil))) (dk_nil) (len_nil)) (da_cons (de_call (ks := []) (md := none) (ok_fraction_product_s F) (hr.mono (by decide)) hgd (by rfl) F.g_fraction_product (da_cons (de_var (i := 0) rfl (by first | exact .inl rfl | exact .inr (.inl rfl) | exact .inr (.inr rfl))) (da_cons (de_var (i := 1) rfl (by first | exact .inl rfl | exact .inr (.inl rfl) | exact .inr (.inr rfl))) (da_nil))) (dk_nil) (len_nil)) (da_nil))))))) (blkOk_by (own := [("_law_one", 3)]) (N := N__law_text_right) (sc := defScope s__law_text_right) (by decide +kernel)) (fun _ _ _ _ _ => dg_name (i := 3) sc__law_text_right.nd rfl (by first | exact .inl rfl | exact .inr rfl) rfl) (difs_nil) (fun _ _ _ _ _ => de_call (ks := []) (md := none) (ok_fraction_text_1 F) (hr.mono (by decide)) hgd (by rfl) F.g_fraction_text (da_cons (de_var (i := 3) rfl (by first | exact .inl rfl | exact .inr (.inl rfl) | exact .inr (.inr rfl))) (da_nil)) (dk_nil) (len_nil)))
    (db_cons (ds_if (dt_cmp (dop_ne hu) (de_lc (own := [("_law_word", 4)]) rfl sc__law_text_right.nd (di_seq (de_var (i := 2) rfl (by first | exact .inl rfl | exact .inr (.inl rfl) | exact .inr (.inr rfl)))) (blkOk_by (own := [("_law_word", 4)]) (N := N__law_text_right) (sc := defScope s__law_text_right) (by decide +kernel)) (fun _ _ _ _ _ => dg_name (i := 4) sc__law_text_right.nd rfl (by first | exact .inl rfl | exact .inr rfl) rfl) (difs_nil) (fun _ _ _ _ _ => de_call (ks := []) (md := none) (ok_fraction_read_1 F) (hr.mono (by decide)) hgd (by rfl) F.g_fraction_read (da_cons (de_var (i := 4) rfl (by first | exact .inl rfl | exact .inr (.inl rfl) | exact .inr (.inr rfl))) (da_nil)) (dk_nil) (len_nil))) (de_lst (da_cons (de_var (i := 0) rfl (by first | exact .inl rfl | exact .inr (.inl rfl) | exact .inr (.inr rfl))) (da_cons (de_var (i := 1) rfl (by first | exact .inl rfl | exact .inr (.inl rfl) | exact .inr (.inr rfl))) (da_cons (de_call (ks := []) (md := none) (ok_fraction_sum_s F) (hr.mono (by decide)) hgd (by rfl) F.g_fraction_sum (da_cons (de_var (i := 0) rfl (by first | exact .inl rfl | exact .inr (.inl rfl) | exact .inr (.inr rfl))) (da_cons (de_var (i := 1) rfl (by first | exact .inl rfl | exact .inr (.inl rfl) | exact .inr (.inr rfl))) (da_nil))) (dk_nil) (len_nil)) (da_cons (de_call (ks := []) (md := none) (ok_fraction_product_s F) (hr.mono (by decide)) hgd (by rfl) F.g_fraction_product (da_cons (de_var (i := 0) rfl (by first | exact .inl rfl | exact .inr (.inl rfl) | exact .inr (.inr rfl))) (da_cons (de_var (i := 1) rfl (by first | exact .inl rfl | exact .inr (.inl rfl) | exact .inr (.inr rfl))) (da_nil))) (dk_nil) (len_nil)) (da_nil)))))) (nomark _)) (db_one (ds_ret (de_bl))) (db_nil))
    (db_one (ds_ret (de_cmp (dop_eq hu) (de_cmp (dop_eq hu) (de_ix dix (de_var (i := 2) rfl (by first | exact .inl rfl | exact .inr (.inl rfl) | exact .inr (.inr rfl))) (de_int) (fun _ _ => rfl)) (de_ix dix (de_var (i := 2) rfl (by first | exact .inl rfl | exact .inr (.inl rfl) | exact .inr (.inr rfl))) (de_int) (fun _ _ => rfl)) (nomark _)) (de_cmp (dop_eq hu) (de_var (i := 0) rfl (by first | exact .inl rfl | exact .inr (.inl rfl) | exact .inr (.inr rfl))) (de_var (i := 1) rfl (by first | exact .inl rfl | exact .inr (.inl rfl) | exact .inr (.inr rfl))) (nomark _)) (nomark _)))))
theorem ok__law_text_right_2 (F : Fc K mg) : DFn P w K mg base 6 (He.ga K "_law_text_right") [] (mdL none) g__law_text_right_2 := by
  obtain ⟨fd, D⟩ := F.d__law_text_right
  exact fd_pos D (fd_dfb D sc__law_text_right (db__law_text_right F)) rfl fun _ _ _ _ _ _ us hl => match us, hl with | [a0, a1], _ => rfl
theorem db_law (F : Fc K mg) (cdv : Value) (A : Around) (outer : List Env) (s : Shared) (H : Hp) (hr : Room 6 (A.deeper (envOfC "law" (defScope s_law) s.heap.objs.size (He.ga K "law") cdv))) (hgd : (A.deeper (envOfC "law" (defScope s_law) s.heap.objs.size (He.ga K "law") cdv)).guards = some []) : DB (pmOf (mdL none)) (cxB P w K mg base N_law "law" (defScope s_law) (He.ga K "law") cdv A outer s H) (defBody s_law) m_law :=
  have hu := hr.units
  have hu1 := hu_of hr
  db_cons (ds_set (i := 1) sc_law.nd rfl (by first | exact .inl rfl | exact .inr rfl) (de_call (ks := []) (md := none) (ok__law_feed_1 F) (hr.mono (by decide)) hgd (by rfl) F.g__law_feed (da_cons (de_var (i := 0) rfl (by first | exact .inl rfl | exact .inr (.inl rfl) | exact .inr (.inr rfl))) (da_nil)) (dk_nil) (len_nil)) rfl)
    (db_cons (ds_for PassesOwn.never rfl (di_range1 (by rfl) F.b_range (da_cons (de_int) (da_nil))) (dg_name (i := 2) sc_law.nd rfl (by first | exact .inl rfl | exact .inr rfl) rfl) (db_cons (ds_par3 rfl sc_law.nd rfl rfl rfl (by decide) (by decide) (by decide) rfl rfl rfl (da_cons (de_call (ks := []) (md := (some 0)) (ok__law_size_1 F) (hr.mono (by decide)) hgd (by rfl) F.g__law_size (da_cons (de_var (i := 1) rfl (by first | exact .inl rfl | exact .inr (.inl rfl) | exact .inr (.inr rfl))) (da_nil)) (dk_nil) (len_nil)) (da_cons (de_call (ks := []) (md := (some 0)) (ok__law_size_1 F) (hr.mono (by decide)) hgd (by rfl) F.g__law_size (da_cons (de_var (i := 1) rfl (by first | exact .inl rfl | exact .inr (.inl rfl) | exact .inr (.inr rfl))) (da_nil)) (dk_nil) (len_nil)) (da_cons (de_call (ks := []) (md := (some 0)) (ok__law_size_1 F) (hr.mono (by decide)) hgd (by rfl) F.g__law_size (da_cons (de_var (i := 1) rfl (by first | exact .inl rfl | exact .inr (.inl rfl) | exact .inr (.inr rfl))) (da_nil)) (dk_nil) (len_nil)) (da_nil)))) rfl rfl rfl rfl)
    (db_one (ds_for PassesOwn.never rfl (di_seq (de_tup (da_cons (de_tup (da_cons (de_var (i := 3) rfl (by first | exact .inl rfl | exact .inr (.inl rfl) | exact .inr (.inr rfl))) (da_cons (de_var (i := 4) rfl (by first | exact .inl rfl | exact .inr (.inl rfl) | exact .inr (.inr rfl))) (da_cons (de_var (i := 5) rfl (by first | exact .inl rfl | exact .inr (.inl rfl) | exact .inr (.inr rfl))) (da_nil))))) (da_cons (de_tup (da_cons (de_var (i := 4) rfl (by first | exact .inl rfl | exact .inr (.inl rfl) | exact .inr (.inr rfl))) (da_cons (de_var (i := 5) rfl (by first | exact .inl rfl | exact .inr (.inl rfl) | exact .inr (.inr rfl))) (da_cons (de_var (i := 3) rfl (by first | exact .inl rfl | exact .inr (.inl rfl) | exact .inr (.inr rfl))) (da_nil))))) (da_cons (de_tup (da_cons (de_var (i := 3) rfl (by first | exact .inl rfl | exact .inr (.inl rfl) | exact .inr (.inr rfl))) (da_cons (de_var (i := 3) rfl (by first | exact .inl rfl | exact .inr (.inl rfl) | exact .inr (.inr rfl))) (da_cons (de_var (i := 4) rfl (by first | exact .inl rfl | exact .inr (.inl rfl) | exact .inr (.inr rfl))) (da_nil))))) (da_cons (de_tup (da_cons (de_call (ks := []) (md := none) (ok_fraction_sum_s F) (hr.mono (by decide)) hgd (by rfl) F.g_fraction_sum (da_cons (de_var (i := 3) rfl (by first | exact .inl rfl | exact .inr (.inl rfl) | exact .inr (.inr rfl))) (da_cons (de_var (i := 4) rfl (by first | exact .inl rfl | exact .inr (.inl rfl) | exact .inr (.inr rfl))) (da_nil))) (dk_nil) (len_nil)) (da_cons (de_var (i := 5) rfl (by first | exact .inl rfl | exact .inr (.inl rfl) | exact .inr (.inr rfl))) (da_cons (de_call (ks := []) (md := none) (ok_fraction_product_s F) (hr.mono (by decide)) hgd (by rfl) F.g_fraction_product (da_cons (de_var (i := 3) rfl (by first | exact .inl rfl | exact .inr (.inl rfl) | exact .inr (.inr rfl))) (da_cons (de_var (i := 5) rfl (by first | exact .inl rfl | exact .inr (.inl rfl) | exact .inr (.inr rfl))) (da_nil))) (dk_nil) (len_nil)) (da_nil))))) (da_nil))))))) (dg_tup rfl (dgs_cons (dg_name (i := 6) sc_law.nd rfl (by first | exact .inl rfl | exact .inr rfl) rfl) (dgs_cons (dg_name (i := 7) sc_law.nd rfl (by first | exact .inl rfl | exact .inr rfl) rfl) (dgs_cons (dg_name (i := 8) sc_law.nd rfl (by first | exact .inl rfl | exact .inr rfl) rfl) (dgs_nil)))) (gl_cons (gl_cons (gl_cons (gl_nil))))) (db_cons (ds_if (DW.dt (dw_or (dt_not (dt_val (de_call (ks := []) (md := none) (ok__law_three_right_3 F) (hr.mono (by decide)) hgd (by rfl) F.g__law_three_right (da_cons (de_var (i := 6) rfl (by first | exact .inl rfl | exact .inr (.inl rfl) | exact .inr (.inr rfl))) (da_cons (de_var (i := 7) rfl (by first | exact .inl rfl | exact .inr (.inl rfl) | exact .inr (.inr rfl))) (da_cons (de_var (i := 8) rfl (by first | exact .inl rfl | exact .inr (.inl rfl) | exact .inr (.inr rfl))) (da_nil)))) (dk_nil) (len_nil)))) (dw_or1 (dt_not (dt_val (de_call (ks := []) (md := none) (ok__law_order_right_3 F) (hr.mono (by decide)) hgd (by rfl) F.g__law_order_right (da_cons (de_var (i := 6) rfl (by first | exact .inl rfl | exact .inr (.inl rfl) | exact .inr (.inr rfl))) (da_cons (de_var (i := 7) rfl (by first | exact .inl rfl | exact .inr (.inl rfl) | exact .inr (.inr rfl))) (da_cons (de_var (i := 8) rfl (by first | exact .inl rfl | exact .inr (.inl rfl) | exact .inr (.inr rfl))) (da_nil)))) (dk_nil) (len_nil))))))) (db_one (ds_ret (de_bl))) (db_nil))
    (db_one (ds_if (dt_not (dt_val (de_call (ks := []) (md := none) (ok__law_text_right_2 F) (hr.mono (by decide)) hgd (by rfl) F.g__law_text_right (da_cons (de_var (i := 6) rfl (by first | exact .inl rfl | exact .inr (.inl rfl) | exact .inr (.inr rfl))) (da_cons (de_var (i := 7) rfl (by first | exact .inl rfl | exact .inr (.inl rfl) | exact .inr (.inr rfl))) (da_nil))) (dk_nil) (len_nil)))) (db_one (ds_ret (de_bl))) (db_nil))))))))
    (db_cons (ds_for PassesOwn.never rfl (di_range2 (by rfl) F.b_range (da_cons (de_neg (de_int)) (da_cons (de_int) (da_nil)))) (dg_name (i := 9) sc_law.nd rfl (by first | exact .inl rfl | exact .inr rfl) rfl) (db_one (ds_for PassesOwn.never rfl (di_seq (de_tup (da_cons (de_neg (de_int)) (da_cons (de_neg (de_int)) (da_cons (de_int) (da_cons (de_int) (da_cons (de_int) (da_nil)))))))) (dg_name (i := 10) sc_law.nd rfl (by first | exact .inl rfl | exact .inr rfl) rfl) (db_cons (ds_set (i := 6) sc_law.nd rfl (by first | exact .inl rfl | exact .inr rfl) (de_call (ks := []) (md := none) (ok_fraction_2 F) (hr.mono (by decide)) hgd (by rfl) F.g_fraction (da_cons (de_var (i := 9) rfl (by first | exact .inl rfl | exact .inr (.inl rfl) | exact .inr (.inr rfl))) (da_cons (de_var (i := 10) rfl (by first | exact .inl rfl | exact .inr (.inl rfl) | exact .inr (.inr rfl))) (da_nil))) (dk_nil) (len_nil)) rfl)
    (db_one (ds_if (DW.dt (dw_or (dt_not (dt_val (de_call (ks := []) (md := none) (ok_is_fraction_1 F) (hr.mono (by decide)) hgd (by rfl) F.g_is_fraction (da_cons (de_var (i := 6) rfl (by first | exact .inl rfl | exact .inr (.inl rfl) | exact .inr (.inr rfl))) (da_nil)) (dk_nil) (len_nil)))) (dw_or (dt_cmp (dop_ne hu) (de_call (ks := []) (md := none) (ok_fraction_2 F) (hr.mono (by decide)) hgd (by rfl) F.g_fraction (da_cons (de_op dop_mul (de_int) (de_var (i := 9) rfl (by first | exact .inl rfl | exact .inr (.inl rfl) | exact .inr (.inr rfl)))) (da_cons (de_op dop_mul (de_int) (de_var (i := 10) rfl (by first | exact .inl rfl | exact .inr (.inl rfl) | exact .inr (.inr rfl)))) (da_nil))) (dk_nil) (len_nil)) (de_var (i := 6) rfl (by first | exact .inl rfl | exact .inr (.inl rfl) | exact .inr (.inr rfl))) (nomark _)) (dw_or1 (dt_cmp (dop_ne hu) (de_op dop_mul (de_ix dix (de_var (i := 6) rfl (by first | exact .inl rfl | exact .inr (.inl rfl) | exact .inr (.inr rfl))) (de_int) (fun _ _ => rfl)) (de_var (i := 10) rfl (by first | exact .inl rfl | exact .inr (.inl rfl) | exact .inr (.inr rfl)))) (de_op dop_mul (de_var (i := 9) rfl (by first | exact .inl rfl | exact .inr (.inl rfl) | exact .inr (.inr rfl))) (de_ix dix (de_var (i := 6) rfl (by first | exact .inl rfl | exact .inr (.inl rfl) | exact .inr (.inr rfl))) (de_int) (fun _ _ => rfl))) (nomark _)))))) (db_one (ds_ret (de_bl))) (db_nil)))))))
    (db_one (ds_ret (de_bl)))))
end
/-! ### the head -/
def d_fraction : He.DefD := ⟨("fraction", none), "fraction", "fraction", defArgs s_fraction, defBody s_fraction, defScope s_fraction, [.int 1], []⟩
def d_fraction_sum : He.DefD := ⟨("fraction_sum", none), "fraction_sum", "fraction_sum", defArgs s_fraction_sum, defBody s_fraction_sum, defScope s_fraction_sum, [], []⟩
def d_fraction_product : He.DefD := ⟨("fraction_product", none), "fraction_product", "fraction_product", defArgs s_fraction_product, defBody s_fraction_product, defScope s_fraction_product, [], []⟩
def d_is_integer : He.DefD := ⟨("is_integer", none), "is_integer", "is_integer", defArgs s_is_integer, defBody s_is_integer, defScope s_is_integer, [], []⟩
def d_is_row : He.DefD := ⟨("is_row", none), "is_row", "is_row", defArgs s_is_row, defBody s_is_row, defScope s_is_row, [], []⟩
def d_is_fraction : He.DefD := ⟨("is_fraction", none), "is_fraction", "is_fraction", defArgs s_is_fraction, defBody s_is_fraction, defScope s_is_fraction, [], []⟩
def d__law_feed : He.DefD := ⟨("_law_feed", none), "_law_feed", "_law_feed", defArgs s__law_feed, defBody s__law_feed, defScope s__law_feed, [], []⟩
def d__law_draw : He.DefD := ⟨("_law_draw", none), "_law_draw", "_law_draw", defArgs s__law_draw, defBody s__law_draw, defScope s__law_draw, [], []⟩
def d__law_sizes : He.DefD := ⟨("_law_sizes", none), "_law_sizes", "_law_sizes", defArgs s__law_sizes, defBody s__law_sizes, defScope s__law_sizes, [], []⟩
def d__law_size : He.DefD := ⟨("_law_size", none), "_law_size", "_law_size", defArgs s__law_size, defBody s__law_size, defScope s__law_size, [], []⟩
def d__law_three_right : He.DefD := ⟨("_law_three_right", none), "_law_three_right", "_law_three_right", defArgs s__law_three_right, defBody s__law_three_right, defScope s__law_three_right, [], []⟩
def d_compared : He.DefD := ⟨("compared", none), "compared", "compared", defArgs s_compared, defBody s_compared, defScope s_compared, [], []⟩
def d__law_order_right : He.DefD := ⟨("_law_order_right", none), "_law_order_right", "_law_order_right", defArgs s__law_order_right, defBody s__law_order_right, defScope s__law_order_right, [], []⟩
def d_integer_text : He.DefD := ⟨("integer_text", none), "integer_text", "integer_text", defArgs s_integer_text, defBody s_integer_text, defScope s_integer_text, [], []⟩
def d_fraction_text : He.DefD := ⟨("fraction_text", none), "fraction_text", "fraction_text", defArgs s_fraction_text, defBody s_fraction_text, defScope s_fraction_text, [], []⟩
def d_are_digits : He.DefD := ⟨("are_digits", none), "are_digits", "are_digits", defArgs s_are_digits, defBody s_are_digits, defScope s_are_digits, [], []⟩
def d_fraction_or_none : He.DefD := ⟨("fraction_or_none", none), "fraction_or_none", "fraction_or_none", defArgs s_fraction_or_none, defBody s_fraction_or_none, defScope s_fraction_or_none, [], []⟩
def d_fraction_read : He.DefD := ⟨("fraction_read", none), "fraction_read", "fraction_read", defArgs s_fraction_read, defBody s_fraction_read, defScope s_fraction_read, [], []⟩
def d__law_text_right : He.DefD := ⟨("_law_text_right", none), "_law_text_right", "_law_text_right", defArgs s__law_text_right, defBody s__law_text_right, defScope s__law_text_right, [], []⟩
def d_law : He.DefD := ⟨("law", none), "law", "law", defArgs s_law, defBody s_law, defScope s_law, [], []⟩
def fn : List He.DefD := [d_fraction, d_fraction_sum, d_fraction_product, d_is_integer, d_is_row, d_is_fraction, d__law_feed, d__law_draw, d__law_sizes, d__law_size, d__law_three_right, d_compared, d__law_order_right, d_integer_text, d_fraction_text, d_are_digits, d_fraction_or_none, d_fraction_read, d__law_text_right, d_law]
def fa : List He.Fa := [.glo "fraction", .glo "fraction_sum", .glo "fraction_product", .glo "is_integer", .glo "is_row", .glo "is_fraction", .glo "_law_feed", .glo "_law_draw", .glo "_law_sizes", .glo "_law_size", .glo "_law_three_right", .glo "compared", .glo "_law_order_right", .glo "integer_text", .glo "fraction_text", .glo "are_digits", .glo "fraction_or_none", .glo "fraction_read", .glo "_law_text_right", .free "abs", .free "all", .free "bool", .free "int", .free "isinstance", .free "len", .free "list", .free "range", .free "reversed", .free "str", .free "tuple", .int "CHUNK" 1000000000000000000000000000000000000000000000000000000000000, .int "MOST_DIGITS" 60, .glo "law"]
def bs : List (Str × String) := [("gcd", "math.gcd")]
def ts : List (Str × List PyData) := []
theorem fc_of {K : PySem.W.Frag} {h : Heap} {mg : Str → Option Value} (X : K.In h) (G : h.Ns mainGlobals mg) (c : SaysX fa fn bs K) (ct : tabB K ts = true) : Fc K mg where
  g_fraction := He.glo_ok X G (c.1.fact 0 (f := .glo "fraction") rfl)
  g_fraction_sum := He.glo_ok X G (c.1.fact 1 (f := .glo "fraction_sum") rfl)
  g_fraction_product := He.glo_ok X G (c.1.fact 2 (f := .glo "fraction_product") rfl)
  g_is_integer := He.glo_ok X G (c.1.fact 3 (f := .glo "is_integer") rfl)
  g_is_row := He.glo_ok X G (c.1.fact 4 (f := .glo "is_row") rfl)
  g_is_fraction := He.glo_ok X G (c.1.fact 5 (f := .glo "is_fraction") rfl)
  g__law_feed := He.glo_ok X G (c.1.fact 6 (f := .glo "_law_feed") rfl)
  g__law_draw := He.glo_ok X G (c.1.fact 7 (f := .glo "_law_draw") rfl)
  g__law_sizes := He.glo_ok X G (c.1.fact 8 (f := .glo "_law_sizes") rfl)
  g__law_size := He.glo_ok X G (c.1.fact 9 (f := .glo "_law_size") rfl)
  g__law_three_right := He.glo_ok X G (c.1.fact 10 (f := .glo "_law_three_right") rfl)
  g_compared := He.glo_ok X G (c.1.fact 11 (f := .glo "compared") rfl)
  g__law_order_right := He.glo_ok X G (c.1.fact 12 (f := .glo "_law_order_right") rfl)
  g_integer_text := He.glo_ok X G (c.1.fact 13 (f := .glo "integer_text") rfl)
  g_fraction_text := He.glo_ok X G (c.1.fact 14 (f := .glo "fraction_text") rfl)
  g_are_digits := He.glo_ok X G (c.1.fact 15 (f := .glo "are_digits") rfl)
  g_fraction_or_none := He.glo_ok X G (c.1.fact 16 (f := .glo "fraction_or_none") rfl)
  g_fraction_read := He.glo_ok X G (c.1.fact 17 (f := .glo "fraction_read") rfl)
  g__law_text_right := He.glo_ok X G (c.1.fact 18 (f := .glo "_law_text_right") rfl)
  b_abs := He.free_ok X G (c.1.fact 19 (f := .free "abs") rfl)
  b_all := He.free_ok X G (c.1.fact 20 (f := .free "all") rfl)
  b_bool := He.free_ok X G (c.1.fact 21 (f := .free "bool") rfl)
  b_int := He.free_ok X G (c.1.fact 22 (f := .free "int") rfl)
  b_isinstance := He.free_ok X G (c.1.fact 23 (f := .free "isinstance") rfl)
  b_len := He.free_ok X G (c.1.fact 24 (f := .free "len") rfl)
  b_list := He.free_ok X G (c.1.fact 25 (f := .free "list") rfl)
  b_range := He.free_ok X G (c.1.fact 26 (f := .free "range") rfl)
  b_reversed := He.free_ok X G (c.1.fact 27 (f := .free "reversed") rfl)
  b_str := He.free_ok X G (c.1.fact 28 (f := .free "str") rfl)
  b_tuple := He.free_ok X G (c.1.fact 29 (f := .free "tuple") rfl)
  i_CHUNK := He.int_ok X G (c.1.fact 30 (f := .int "CHUNK" 1000000000000000000000000000000000000000000000000000000000000) rfl)
  i_MOST_DIGITS := He.int_ok X G (c.1.fact 31 (f := .int "MOST_DIGITS" 60) rfl)
  m_gcd := bi_ok X G c.2 (by decide)
  d_fraction := c.1.def_ 0 (d := d_fraction) rfl
  d_fraction_sum := c.1.def_ 1 (d := d_fraction_sum) rfl
  d_fraction_product := c.1.def_ 2 (d := d_fraction_product) rfl
  d_is_integer := c.1.def_ 3 (d := d_is_integer) rfl
  d_is_row := c.1.def_ 4 (d := d_is_row) rfl
  d_is_fraction := c.1.def_ 5 (d := d_is_fraction) rfl
  d__law_feed := c.1.def_ 6 (d := d__law_feed) rfl
  d__law_draw := c.1.def_ 7 (d := d__law_draw) rfl
  d__law_sizes := c.1.def_ 8 (d := d__law_sizes) rfl
  d__law_size := c.1.def_ 9 (d := d__law_size) rfl
  d__law_three_right := c.1.def_ 10 (d := d__law_three_right) rfl
  d_compared := c.1.def_ 11 (d := d_compared) rfl
  d__law_order_right := c.1.def_ 12 (d := d__law_order_right) rfl
  d_integer_text := c.1.def_ 13 (d := d_integer_text) rfl
  d_fraction_text := c.1.def_ 14 (d := d_fraction_text) rfl
  d_are_digits := c.1.def_ 15 (d := d_are_digits) rfl
  d_fraction_or_none := c.1.def_ 16 (d := d_fraction_or_none) rfl
  d_fraction_read := c.1.def_ 17 (d := d_fraction_read) rfl
  d__law_text_right := c.1.def_ 18 (d := d__law_text_right) rfl
  d_law := c.1.def_ 19 (d := d_law) rfl
theorem facts {P : Program} {w : World} {K : PySem.W.Frag} {h : Heap} {mg : Str → Option Value} {f : Addr} (KX : K.In h) (G : h.Ns mainGlobals mg) (hfa : mg ("law" : Str) = some (.ref f)) (c : SaysX fa fn bs K) (ct : tabB K ts = true) :
    ∃ fd : FuncData, (∀ (s : Shared) (u : Value), BindsTo s fd ⟨[u], []⟩ [("_law_script", u)]) ∧ ∀ base : Heap, K.In base → base.Ns mainGlobals mg → DFb P w K mg base 7 f fd ["_law_script"] [] g_law := by
  have F := fc_of KX G c ct
  obtain ⟨fd, D⟩ := F.d_law
  have e := hfa.symm.trans (He.glo_ok KX G (c.1.fact 32 (f := .glo "law") rfl))
  cases e
  have b := FunD.bindsA (ps := ["_law_script"]) D fun _ _ _ _ _ _ us hl => match us, hl with | [_], _ => rfl
  exact ⟨fd, fun s u => b s [u] rfl, fun base _ _ => fd_dfb D sc_law (db_law F)⟩
end LW

namespace LW
open L2 PySem PySem.Spec PyProof.Rows DL RT
set_option maxHeartbeats 0
/-! ### the program's fractions -/
theorem e_gf {qs : GsF} {q : Rat} {ρ : PSt} : gTp qs (fD q) ρ = qs [.int q.num, .int (q.den : Int)] ρ := rfl
theorem e_gc {qs : GsF} {c : Cl} {ρ : PSt} : gTp qs (cD c) ρ = qs [fD c.f, fD c.p, oD c.l, oD c.h] ρ := rfl
theorem glog {a : Int} {n : Nat} (h : n ≠ 0) (hb : n < 2 ^ 8000) : ((Nat.gcd a.natAbs n : Nat) : Int).natAbs.log2 < 9000 := by
  have h1 : Nat.gcd a.natAbs n ≤ n := Nat.gcd_le_right _ (by omega)
  have h2 : (((Nat.gcd a.natAbs n : Nat) : Int).natAbs).log2 < 8000 := log2_lt' (by decide) (by rw [Int.natAbs_natCast]; omega)
  omega
theorem fraction_nz (a : Int) (n : Nat) (h : n ≠ 0) (hb : n < 2 ^ 8000) : g_fraction_2 [.fz (.int a), .fz (.int (n : Int))] = some (.fz (fD (Rat.normalize a n h)), [.fz (.int a), .fz (.int (n : Int))]) := by
  have e : g_fraction_2 [.fz (.int a), .fz (.int (n : Int))] = kStar2 [.fz (.int a), .fz (.int (n : Int))] (h_fraction 2 [.fz (.int a), .fz (.int (n : Int))]) := rfl
  have h2 : ¬ (n : Int) < 0 := by omega
  have e2 : ((n : Int) / ((Nat.gcd a.natAbs n : Nat) : Int)) = (((Rat.normalize a n h).den : Nat) : Int) := by rw [nz_den]; rfl
  have g1 : gGcd [.int a, .int (n : Int)] = some (.fz (.int ((Nat.gcd a.natAbs n : Nat) : Int))) := rfl
  rw [e]
  simp only [h_fraction, m_fraction, e_seq, e_kseq, e_kseqR, e_kseqB, e_kseqC, e_skip, e_if, e_ifT, e_ifF, e_ret, e_kret, e_kretL, e_kretD, e_kretA, e_kretA2, e_set, e_kset, e_ksetL, e_ksetD, e_ksetS, e_ksetA, e_ksetA2, e_expr, e_knx, e_cvF, e_cvS, e_cvL, e_cvD, e_cfF, e_cfL, e_cdF, e_cdL, e_ckD, e_clL, e_pkF, e_pkL, e_pkA, e_fzF, e_fzL, e_fzA, e_var, e_c, e_op, e_o1, e_o2, e_o3, e_o4, e_tst, e_kt, e_and, e_andT, e_andF, e_or, e_orT, e_orF, e_not, e_knot, e_andV, e_andVT, e_andVF, e_orV, e_orVT, e_orVF, e_notV, e_knotV, e_ifE, e_ifET, e_ifEF, e_neg, e_kneg, e_nil, e_cons, e_a1F, e_a1S, e_a1L, e_a1A, e_a2, e_fa0, e_fa1, e_fa2, e_fa3, e_tup, e_ktup, e_ktup2, e_lst, e_klst, e_klst2, e_pa0, e_pa1, e_pa2, e_pa3, e_cl, e_kcl, e_kcl2, e_dget, e_d1, e_d2, e_d2i, e_d3, e_d4, e_dput, e_p1, e_p2, e_p3, e_p4, e_p5, e_knil, e_kcons, e_k1, e_k2, e_k3, e_disp, e_k4, e_nop, e_somep, e_ksome, e_sl, e_s1, e_s2, e_s3, e_gnm, e_gtp, e_gnil, e_gcons, e_kg, e_asg, e_as1, e_as2, e_as3, e_par, e_pr, e_pr2, e_it, e_i1, e_i2L, e_i2T, e_r1, e_kr1, e_for, e_kfor, e_l0, e_l1, e_l2, e_l3, e_l3c, e_l3b, e_l3r, e_w1, e_wT, e_wF, e_w2, e_fn, e_kfn, e_kfnN, e_kfn2, e_ent, e_out0, e_outN, e_outT, e_outF, e_kout, e_md0, e_md1, e_md2, e_md3, e_call, e_c1, e_c2, e_c3, e_c4, e_en, e_en0, e_es0, e_es, e_e1, e_e0, e_e2, e_e3, e_kp, e_kpL, e_kpD, e_fsS, e_fsF, e_fsA, e_fsL, e_kfr, e_le0, e_le1, e_le2, e_comp, e_lc, e_lc2, e_m0, e_m1, e_m2, e_m3, e_m3F, e_m4, e_m5, e_yes, e_wi0, e_wi1, e_star, e_star2, e_star3, e_isi, e_is1, e_is2, e_orE, e_orE1, e_orE2, e_app, e_ap1, e_ap2, e_ap3, e_ap4, e_ap5, e_ext, e_ex1, e_ex2, e_ex3, e_ex4, e_ex5, e_ch, e_ch1, e_ch2, e_ch3, e_ch4, e_ch5, List.length_cons, List.length_nil, List.map_cons, List.map_nil, Nat.reduceAdd, Nat.reduceSub, List.replicate_succ, List.replicate_zero, List.cons_append, List.nil_append, List.append_nil, List.getElem?_cons_zero, List.getElem?_cons_succ, List.set_cons_zero, List.set_cons_succ, ags, ite_true, if_true, g_add, g_sub, g_lt, g_le, g_gt, g_ge, g_eqI, g_neI, g_abs, g_gcd, g_is, g_isNot, ok0, ok1, ok2, ok3, ok4, ok5, ok6, ok7, ok8, ok9, ok10, ok11, ok12, ok13, ok14, ok15, h2, decide_false, -g_gcd, g1, g_div (gp h) (glog h hb), e2]
  rw [← nz_num a n h]
  rfl
abbrev gF : GF := gTp (gsCons (gNm 2) (gsCons (gNm 3) (gsNil)))
abbrev bS : SF := setF 1 (callF none g_fraction_2 (consF (opF gAdd (opF gMul (opF gIx (varF 1) (cF (.int 0))) (varF 3)) (opF gMul (varF 2) (opF gIx (varF 1) (cF (.int 1))))) (consF (opF gMul (opF gIx (varF 1) (cF (.int 1))) (varF 3)) (nilF))) (nilF))
abbrev bP : SF := setF 1 (callF none g_fraction_2 (consF (opF gMul (opF gIx (varF 1) (cF (.int 0))) (varF 2)) (consF (opF gMul (opF gIx (varF 1) (cF (.int 1))) (varF 3)) (nilF))) (nilF))
theorem nm4 {q : Rat} (h : Sz 4000 q) : q.num.natAbs < 2 ^ 4000 := h.1
theorem dn4 {q : Rat} (h : Sz 4000 q) : ((q.den : Int)).natAbs < 2 ^ 4000 := den_lt h
theorem dd8 {p q : Rat} (h : Sz 4000 p) (h2 : Sz 4000 q) : p.den * q.den < 2 ^ 8000 := by
  have := Nat.mul_lt_mul'' h.2 h2.2
  rwa [← Nat.pow_add] at this
theorem frac_add {p q : Rat} (h : Sz 4000 p) (h2 : Sz 4000 q) : g_fraction_2 [.fz (.int (p.num * (q.den : Int) + q.num * (p.den : Int))), .fz (.int ((p.den : Int) * (q.den : Int)))] = some (.fz (fD (p + q)), [.fz (.int (p.num * (q.den : Int) + q.num * (p.den : Int))), .fz (.int ((p.den : Int) * (q.den : Int)))]) := by
  rw [← Int.natCast_mul, fraction_nz _ _ (Nat.mul_ne_zero p.den_nz q.den_nz) (dd8 h h2), Rat.add_def]
theorem frac_mul {p q : Rat} (h : Sz 4000 p) (h2 : Sz 4000 q) : g_fraction_2 [.fz (.int (p.num * q.num)), .fz (.int ((p.den : Int) * (q.den : Int)))] = some (.fz (fD (p * q)), [.fz (.int (p.num * q.num)), .fz (.int ((p.den : Int) * (q.den : Int)))]) := by
  rw [← Int.natCast_mul, fraction_nz _ _ (Nat.mul_ne_zero p.den_nz q.den_nz) (dd8 h h2), Rat.mul_def]
theorem sum_loop {T : Option S} {s : Nat} : ∀ (qs : List Rat) (k : Nat) (t : Rat) (x y : Option S), Sz k t → (∀ q ∈ qs, Sz s q) → k + (s + 1) * qs.length + s ≤ 4000 →
    ∃ x' y', loopF gF bS (qs.map fD) [T, some (.fz (fD t)), x, y] = some (.nx [T, some (.fz (fD (qs.foldl (· + ·) t))), x', y'])
  | [], k, t, x, y, h, _, _ => ⟨x, y, rfl⟩
  | q :: qs, k, t, x, y, h, hs, hk => by
    rw [List.length_cons, Nat.mul_add] at hk
    have hq := hs q (List.mem_cons_self ..)
    have h4 : Sz 4000 t := h.up (by omega)
    have q4 : Sz 4000 q := hq.up (by omega)
    obtain ⟨x', y', e⟩ := sum_loop (T := T) (s := s) qs (k + s + 1) (t + q) (some (.fz (.int q.num))) (some (.fz (.int (q.den : Int)))) (h.add hq) (fun z hz => hs z (List.mem_cons_of_mem _ hz)) (by omega)
    refine ⟨x', y', ?_⟩
    rw [List.map_cons, List.foldl_cons, ← e]
    simp only [e_gf, e_seq, e_kseq, e_kseqR, e_kseqB, e_kseqC, e_skip, e_if, e_ifT, e_ifF, e_ret, e_kret, e_kretL, e_kretD, e_kretA, e_kretA2, e_set, e_kset, e_ksetL, e_ksetD, e_ksetS, e_ksetA, e_ksetA2, e_expr, e_knx, e_cvF, e_cvS, e_cvL, e_cvD, e_cfF, e_cfL, e_cdF, e_cdL, e_ckD, e_clL, e_pkF, e_pkL, e_pkA, e_fzF, e_fzL, e_fzA, e_var, e_c, e_op, e_o1, e_o2, e_o3, e_o4, e_tst, e_kt, e_and, e_andT, e_andF, e_or, e_orT, e_orF, e_not, e_knot, e_andV, e_andVT, e_andVF, e_orV, e_orVT, e_orVF, e_notV, e_knotV, e_ifE, e_ifET, e_ifEF, e_neg, e_kneg, e_nil, e_cons, e_a1F, e_a1S, e_a1L, e_a1A, e_a2, e_fa0, e_fa1, e_fa2, e_fa3, e_tup, e_ktup, e_ktup2, e_lst, e_klst, e_klst2, e_pa0, e_pa1, e_pa2, e_pa3, e_cl, e_kcl, e_kcl2, e_dget, e_d1, e_d2, e_d2i, e_d3, e_d4, e_dput, e_p1, e_p2, e_p3, e_p4, e_p5, e_knil, e_kcons, e_k1, e_k2, e_k3, e_disp, e_k4, e_nop, e_somep, e_ksome, e_sl, e_s1, e_s2, e_s3, e_gnm, e_gtp, e_gnil, e_gcons, e_kg, e_asg, e_as1, e_as2, e_as3, e_par, e_pr, e_pr2, e_it, e_i1, e_i2L, e_i2T, e_r1, e_kr1, e_for, e_kfor, e_l0, e_l1, e_l2, e_l3, e_l3c, e_l3b, e_l3r, e_w1, e_wT, e_wF, e_w2, e_fn, e_kfn, e_kfnN, e_kfn2, e_ent, e_out0, e_outN, e_outT, e_outF, e_kout, e_md0, e_md1, e_md2, e_md3, e_call, e_c1, e_c2, e_c3, e_c4, e_en, e_en0, e_es0, e_es, e_e1, e_e0, e_e2, e_e3, e_kp, e_kpL, e_kpD, e_fsS, e_fsF, e_fsA, e_fsL, e_kfr, e_le0, e_le1, e_le2, e_comp, e_lc, e_lc2, e_m0, e_m1, e_m2, e_m3, e_m3F, e_m4, e_m5, e_yes, e_wi0, e_wi1, e_star, e_star2, e_star3, e_isi, e_is1, e_is2, e_orE, e_orE1, e_orE2, e_app, e_ap1, e_ap2, e_ap3, e_ap4, e_ap5, e_ext, e_ex1, e_ex2, e_ex3, e_ex4, e_ex5, e_ch, e_ch1, e_ch2, e_ch3, e_ch4, e_ch5, List.length_cons, List.length_nil, List.map_cons, List.map_nil, Nat.reduceAdd, Nat.reduceSub, List.replicate_succ, List.replicate_zero, List.cons_append, List.nil_append, List.append_nil, List.getElem?_cons_zero, List.getElem?_cons_succ, List.set_cons_zero, List.set_cons_succ, ags, ite_true, if_true, g_add, g_sub, g_lt, g_le, g_gt, g_ge, g_eqI, g_neI, g_abs, g_gcd, g_is, g_isNot, ok0, ok1, ok2, ok3, ok4, ok5, ok6, ok7, ok8, ok9, ok10, ok11, ok12, ok13, ok14, ok15, f_0, f_1, gm (nm4 h4) (dn4 q4), gm (nm4 q4) (dn4 h4), gm (dn4 h4) (dn4 q4), frac_add h4 q4]
theorem prod_loop {T : Option S} {s : Nat} : ∀ (qs : List Rat) (k : Nat) (t : Rat) (x y : Option S), Sz k t → (∀ q ∈ qs, Sz s q) → k + s * qs.length + s ≤ 4000 →
    ∃ x' y', loopF gF bP (qs.map fD) [T, some (.fz (fD t)), x, y] = some (.nx [T, some (.fz (fD (qs.foldl (· * ·) t))), x', y'])
  | [], k, t, x, y, h, _, _ => ⟨x, y, rfl⟩
  | q :: qs, k, t, x, y, h, hs, hk => by
    rw [List.length_cons, Nat.mul_add] at hk
    have hq := hs q (List.mem_cons_self ..)
    have h4 : Sz 4000 t := h.up (by omega)
    have q4 : Sz 4000 q := hq.up (by omega)
    obtain ⟨x', y', e⟩ := prod_loop (T := T) (s := s) qs (k + s) (t * q) (some (.fz (.int q.num))) (some (.fz (.int (q.den : Int)))) (h.mul hq) (fun z hz => hs z (List.mem_cons_of_mem _ hz)) (by omega)
    refine ⟨x', y', ?_⟩
    rw [List.map_cons, List.foldl_cons, ← e]
    simp only [e_gf, e_seq, e_kseq, e_kseqR, e_kseqB, e_kseqC, e_skip, e_if, e_ifT, e_ifF, e_ret, e_kret, e_kretL, e_kretD, e_kretA, e_kretA2, e_set, e_kset, e_ksetL, e_ksetD, e_ksetS, e_ksetA, e_ksetA2, e_expr, e_knx, e_cvF, e_cvS, e_cvL, e_cvD, e_cfF, e_cfL, e_cdF, e_cdL, e_ckD, e_clL, e_pkF, e_pkL, e_pkA, e_fzF, e_fzL, e_fzA, e_var, e_c, e_op, e_o1, e_o2, e_o3, e_o4, e_tst, e_kt, e_and, e_andT, e_andF, e_or, e_orT, e_orF, e_not, e_knot, e_andV, e_andVT, e_andVF, e_orV, e_orVT, e_orVF, e_notV, e_knotV, e_ifE, e_ifET, e_ifEF, e_neg, e_kneg, e_nil, e_cons, e_a1F, e_a1S, e_a1L, e_a1A, e_a2, e_fa0, e_fa1, e_fa2, e_fa3, e_tup, e_ktup, e_ktup2, e_lst, e_klst, e_klst2, e_pa0, e_pa1, e_pa2, e_pa3, e_cl, e_kcl, e_kcl2, e_dget, e_d1, e_d2, e_d2i, e_d3, e_d4, e_dput, e_p1, e_p2, e_p3, e_p4, e_p5, e_knil, e_kcons, e_k1, e_k2, e_k3, e_disp, e_k4, e_nop, e_somep, e_ksome, e_sl, e_s1, e_s2, e_s3, e_gnm, e_gtp, e_gnil, e_gcons, e_kg, e_asg, e_as1, e_as2, e_as3, e_par, e_pr, e_pr2, e_it, e_i1, e_i2L, e_i2T, e_r1, e_kr1, e_for, e_kfor, e_l0, e_l1, e_l2, e_l3, e_l3c, e_l3b, e_l3r, e_w1, e_wT, e_wF, e_w2, e_fn, e_kfn, e_kfnN, e_kfn2, e_ent, e_out0, e_outN, e_outT, e_outF, e_kout, e_md0, e_md1, e_md2, e_md3, e_call, e_c1, e_c2, e_c3, e_c4, e_en, e_en0, e_es0, e_es, e_e1, e_e0, e_e2, e_e3, e_kp, e_kpL, e_kpD, e_fsS, e_fsF, e_fsA, e_fsL, e_kfr, e_le0, e_le1, e_le2, e_comp, e_lc, e_lc2, e_m0, e_m1, e_m2, e_m3, e_m3F, e_m4, e_m5, e_yes, e_wi0, e_wi1, e_star, e_star2, e_star3, e_isi, e_is1, e_is2, e_orE, e_orE1, e_orE2, e_app, e_ap1, e_ap2, e_ap3, e_ap4, e_ap5, e_ext, e_ex1, e_ex2, e_ex3, e_ex4, e_ex5, e_ch, e_ch1, e_ch2, e_ch3, e_ch4, e_ch5, List.length_cons, List.length_nil, List.map_cons, List.map_nil, Nat.reduceAdd, Nat.reduceSub, List.replicate_succ, List.replicate_zero, List.cons_append, List.nil_append, List.append_nil, List.getElem?_cons_zero, List.getElem?_cons_succ, List.set_cons_zero, List.set_cons_succ, ags, ite_true, if_true, g_add, g_sub, g_lt, g_le, g_gt, g_ge, g_eqI, g_neI, g_abs, g_gcd, g_is, g_isNot, ok0, ok1, ok2, ok3, ok4, ok5, ok6, ok7, ok8, ok9, ok10, ok11, ok12, ok13, ok14, ok15, f_0, f_1, gm (nm4 h4) (nm4 q4), gm (dn4 h4) (dn4 q4), frac_mul h4 q4]
theorem fD0 : fD 0 = .tuple [.int 0, .int 1] := rfl
theorem fD1 : fD 1 = .tuple [.int 1, .int 1] := rfl
theorem fsum_ok {s : Nat} (qs : List Rat) (hs : ∀ q ∈ qs, Sz s q) (hl : 1 + (s + 1) * qs.length + s ≤ 4000) : g_fraction_sum [.fz (.tuple (qs.map fD))] = some (.fz (fD (qs.foldl (· + ·) 0)), [.fz (.tuple (qs.map fD))]) := by
  obtain ⟨x, y, e⟩ := sum_loop (T := some (.fz (.tuple (qs.map fD)))) qs 1 0 none none (sz01 (by decide)) hs hl
  simp only [g_fraction_sum, m_fraction_sum, e_seq, e_kseq, e_kseqR, e_kseqB, e_kseqC, e_skip, e_if, e_ifT, e_ifF, e_ret, e_kret, e_kretL, e_kretD, e_kretA, e_kretA2, e_set, e_kset, e_ksetL, e_ksetD, e_ksetS, e_ksetA, e_ksetA2, e_expr, e_knx, e_cvF, e_cvS, e_cvL, e_cvD, e_cfF, e_cfL, e_cdF, e_cdL, e_ckD, e_clL, e_pkF, e_pkL, e_pkA, e_fzF, e_fzL, e_fzA, e_var, e_c, e_op, e_o1, e_o2, e_o3, e_o4, e_tst, e_kt, e_and, e_andT, e_andF, e_or, e_orT, e_orF, e_not, e_knot, e_andV, e_andVT, e_andVF, e_orV, e_orVT, e_orVF, e_notV, e_knotV, e_ifE, e_ifET, e_ifEF, e_neg, e_kneg, e_nil, e_cons, e_a1F, e_a1S, e_a1L, e_a1A, e_a2, e_fa0, e_fa1, e_fa2, e_fa3, e_tup, e_ktup, e_ktup2, e_lst, e_klst, e_klst2, e_pa0, e_pa1, e_pa2, e_pa3, e_cl, e_kcl, e_kcl2, e_dget, e_d1, e_d2, e_d2i, e_d3, e_d4, e_dput, e_p1, e_p2, e_p3, e_p4, e_p5, e_knil, e_kcons, e_k1, e_k2, e_k3, e_disp, e_k4, e_nop, e_somep, e_ksome, e_sl, e_s1, e_s2, e_s3, e_gnm, e_gtp, e_gnil, e_gcons, e_kg, e_asg, e_as1, e_as2, e_as3, e_par, e_pr, e_pr2, e_it, e_i1, e_i2L, e_i2T, e_r1, e_kr1, e_for, e_kfor, e_l0, e_l1, e_l2, e_l3, e_l3c, e_l3b, e_l3r, e_w1, e_wT, e_wF, e_w2, e_fn, e_kfn, e_kfnN, e_kfn2, e_ent, e_out0, e_outN, e_outT, e_outF, e_kout, e_md0, e_md1, e_md2, e_md3, e_call, e_c1, e_c2, e_c3, e_c4, e_en, e_en0, e_es0, e_es, e_e1, e_e0, e_e2, e_e3, e_kp, e_kpL, e_kpD, e_fsS, e_fsF, e_fsA, e_fsL, e_kfr, e_le0, e_le1, e_le2, e_comp, e_lc, e_lc2, e_m0, e_m1, e_m2, e_m3, e_m3F, e_m4, e_m5, e_yes, e_wi0, e_wi1, e_star, e_star2, e_star3, e_isi, e_is1, e_is2, e_orE, e_orE1, e_orE2, e_app, e_ap1, e_ap2, e_ap3, e_ap4, e_ap5, e_ext, e_ex1, e_ex2, e_ex3, e_ex4, e_ex5, e_ch, e_ch1, e_ch2, e_ch3, e_ch4, e_ch5, List.length_cons, List.length_nil, List.map_cons, List.map_nil, Nat.reduceAdd, Nat.reduceSub, List.replicate_succ, List.replicate_zero, List.cons_append, List.nil_append, List.append_nil, List.getElem?_cons_zero, List.getElem?_cons_succ, List.set_cons_zero, List.set_cons_succ, ags, ite_true, if_true, g_add, g_sub, g_lt, g_le, g_gt, g_ge, g_eqI, g_neI, g_abs, g_gcd, g_is, g_isNot, ok0, ok1, ok2, ok3, ok4, ok5, ok6, ok7, ok8, ok9, ok10, ok11, ok12, ok13, ok14, ok15, ← fD0]
  rw [e]
  simp only [e_seq, e_kseq, e_kseqR, e_kseqB, e_kseqC, e_skip, e_if, e_ifT, e_ifF, e_ret, e_kret, e_kretL, e_kretD, e_kretA, e_kretA2, e_set, e_kset, e_ksetL, e_ksetD, e_ksetS, e_ksetA, e_ksetA2, e_expr, e_knx, e_cvF, e_cvS, e_cvL, e_cvD, e_cfF, e_cfL, e_cdF, e_cdL, e_ckD, e_clL, e_pkF, e_pkL, e_pkA, e_fzF, e_fzL, e_fzA, e_var, e_c, e_op, e_o1, e_o2, e_o3, e_o4, e_tst, e_kt, e_and, e_andT, e_andF, e_or, e_orT, e_orF, e_not, e_knot, e_andV, e_andVT, e_andVF, e_orV, e_orVT, e_orVF, e_notV, e_knotV, e_ifE, e_ifET, e_ifEF, e_neg, e_kneg, e_nil, e_cons, e_a1F, e_a1S, e_a1L, e_a1A, e_a2, e_fa0, e_fa1, e_fa2, e_fa3, e_tup, e_ktup, e_ktup2, e_lst, e_klst, e_klst2, e_pa0, e_pa1, e_pa2, e_pa3, e_cl, e_kcl, e_kcl2, e_dget, e_d1, e_d2, e_d2i, e_d3, e_d4, e_dput, e_p1, e_p2, e_p3, e_p4, e_p5, e_knil, e_kcons, e_k1, e_k2, e_k3, e_disp, e_k4, e_nop, e_somep, e_ksome, e_sl, e_s1, e_s2, e_s3, e_gnm, e_gtp, e_gnil, e_gcons, e_kg, e_asg, e_as1, e_as2, e_as3, e_par, e_pr, e_pr2, e_it, e_i1, e_i2L, e_i2T, e_r1, e_kr1, e_for, e_kfor, e_l0, e_l1, e_l2, e_l3, e_l3c, e_l3b, e_l3r, e_w1, e_wT, e_wF, e_w2, e_fn, e_kfn, e_kfnN, e_kfn2, e_ent, e_out0, e_outN, e_outT, e_outF, e_kout, e_md0, e_md1, e_md2, e_md3, e_call, e_c1, e_c2, e_c3, e_c4, e_en, e_en0, e_es0, e_es, e_e1, e_e0, e_e2, e_e3, e_kp, e_kpL, e_kpD, e_fsS, e_fsF, e_fsA, e_fsL, e_kfr, e_le0, e_le1, e_le2, e_comp, e_lc, e_lc2, e_m0, e_m1, e_m2, e_m3, e_m3F, e_m4, e_m5, e_yes, e_wi0, e_wi1, e_star, e_star2, e_star3, e_isi, e_is1, e_is2, e_orE, e_orE1, e_orE2, e_app, e_ap1, e_ap2, e_ap3, e_ap4, e_ap5, e_ext, e_ex1, e_ex2, e_ex3, e_ex4, e_ex5, e_ch, e_ch1, e_ch2, e_ch3, e_ch4, e_ch5, List.length_cons, List.length_nil, List.map_cons, List.map_nil, Nat.reduceAdd, Nat.reduceSub, List.replicate_succ, List.replicate_zero, List.cons_append, List.nil_append, List.append_nil, List.getElem?_cons_zero, List.getElem?_cons_succ, List.set_cons_zero, List.set_cons_succ, ags, ite_true, if_true, g_add, g_sub, g_lt, g_le, g_gt, g_ge, g_eqI, g_neI, g_abs, g_gcd, g_is, g_isNot, ok0, ok1, ok2, ok3, ok4, ok5, ok6, ok7, ok8, ok9, ok10, ok11, ok12, ok13, ok14, ok15]
theorem fprod_ok {s : Nat} (qs : List Rat) (hs : ∀ q ∈ qs, Sz s q) (hl : 1 + s * qs.length + s ≤ 4000) : g_fraction_product [.fz (.tuple (qs.map fD))] = some (.fz (fD (qs.foldl (· * ·) 1)), [.fz (.tuple (qs.map fD))]) := by
  obtain ⟨x, y, e⟩ := prod_loop (T := some (.fz (.tuple (qs.map fD)))) qs 1 1 none none (sz11 (by decide)) hs hl
  simp only [g_fraction_product, m_fraction_product, e_seq, e_kseq, e_kseqR, e_kseqB, e_kseqC, e_skip, e_if, e_ifT, e_ifF, e_ret, e_kret, e_kretL, e_kretD, e_kretA, e_kretA2, e_set, e_kset, e_ksetL, e_ksetD, e_ksetS, e_ksetA, e_ksetA2, e_expr, e_knx, e_cvF, e_cvS, e_cvL, e_cvD, e_cfF, e_cfL, e_cdF, e_cdL, e_ckD, e_clL, e_pkF, e_pkL, e_pkA, e_fzF, e_fzL, e_fzA, e_var, e_c, e_op, e_o1, e_o2, e_o3, e_o4, e_tst, e_kt, e_and, e_andT, e_andF, e_or, e_orT, e_orF, e_not, e_knot, e_andV, e_andVT, e_andVF, e_orV, e_orVT, e_orVF, e_notV, e_knotV, e_ifE, e_ifET, e_ifEF, e_neg, e_kneg, e_nil, e_cons, e_a1F, e_a1S, e_a1L, e_a1A, e_a2, e_fa0, e_fa1, e_fa2, e_fa3, e_tup, e_ktup, e_ktup2, e_lst, e_klst, e_klst2, e_pa0, e_pa1, e_pa2, e_pa3, e_cl, e_kcl, e_kcl2, e_dget, e_d1, e_d2, e_d2i, e_d3, e_d4, e_dput, e_p1, e_p2, e_p3, e_p4, e_p5, e_knil, e_kcons, e_k1, e_k2, e_k3, e_disp, e_k4, e_nop, e_somep, e_ksome, e_sl, e_s1, e_s2, e_s3, e_gnm, e_gtp, e_gnil, e_gcons, e_kg, e_asg, e_as1, e_as2, e_as3, e_par, e_pr, e_pr2, e_it, e_i1, e_i2L, e_i2T, e_r1, e_kr1, e_for, e_kfor, e_l0, e_l1, e_l2, e_l3, e_l3c, e_l3b, e_l3r, e_w1, e_wT, e_wF, e_w2, e_fn, e_kfn, e_kfnN, e_kfn2, e_ent, e_out0, e_outN, e_outT, e_outF, e_kout, e_md0, e_md1, e_md2, e_md3, e_call, e_c1, e_c2, e_c3, e_c4, e_en, e_en0, e_es0, e_es, e_e1, e_e0, e_e2, e_e3, e_kp, e_kpL, e_kpD, e_fsS, e_fsF, e_fsA, e_fsL, e_kfr, e_le0, e_le1, e_le2, e_comp, e_lc, e_lc2, e_m0, e_m1, e_m2, e_m3, e_m3F, e_m4, e_m5, e_yes, e_wi0, e_wi1, e_star, e_star2, e_star3, e_isi, e_is1, e_is2, e_orE, e_orE1, e_orE2, e_app, e_ap1, e_ap2, e_ap3, e_ap4, e_ap5, e_ext, e_ex1, e_ex2, e_ex3, e_ex4, e_ex5, e_ch, e_ch1, e_ch2, e_ch3, e_ch4, e_ch5, List.length_cons, List.length_nil, List.map_cons, List.map_nil, Nat.reduceAdd, Nat.reduceSub, List.replicate_succ, List.replicate_zero, List.cons_append, List.nil_append, List.append_nil, List.getElem?_cons_zero, List.getElem?_cons_succ, List.set_cons_zero, List.set_cons_succ, ags, ite_true, if_true, g_add, g_sub, g_lt, g_le, g_gt, g_ge, g_eqI, g_neI, g_abs, g_gcd, g_is, g_isNot, ok0, ok1, ok2, ok3, ok4, ok5, ok6, ok7, ok8, ok9, ok10, ok11, ok12, ok13, ok14, ok15, ← fD1]
  rw [e]
  simp only [e_seq, e_kseq, e_kseqR, e_kseqB, e_kseqC, e_skip, e_if, e_ifT, e_ifF, e_ret, e_kret, e_kretL, e_kretD, e_kretA, e_kretA2, e_set, e_kset, e_ksetL, e_ksetD, e_ksetS, e_ksetA, e_ksetA2, e_expr, e_knx, e_cvF, e_cvS, e_cvL, e_cvD, e_cfF, e_cfL, e_cdF, e_cdL, e_ckD, e_clL, e_pkF, e_pkL, e_pkA, e_fzF, e_fzL, e_fzA, e_var, e_c, e_op, e_o1, e_o2, e_o3, e_o4, e_tst, e_kt, e_and, e_andT, e_andF, e_or, e_orT, e_orF, e_not, e_knot, e_andV, e_andVT, e_andVF, e_orV, e_orVT, e_orVF, e_notV, e_knotV, e_ifE, e_ifET, e_ifEF, e_neg, e_kneg, e_nil, e_cons, e_a1F, e_a1S, e_a1L, e_a1A, e_a2, e_fa0, e_fa1, e_fa2, e_fa3, e_tup, e_ktup, e_ktup2, e_lst, e_klst, e_klst2, e_pa0, e_pa1, e_pa2, e_pa3, e_cl, e_kcl, e_kcl2, e_dget, e_d1, e_d2, e_d2i, e_d3, e_d4, e_dput, e_p1, e_p2, e_p3, e_p4, e_p5, e_knil, e_kcons, e_k1, e_k2, e_k3, e_disp, e_k4, e_nop, e_somep, e_ksome, e_sl, e_s1, e_s2, e_s3, e_gnm, e_gtp, e_gnil, e_gcons, e_kg, e_asg, e_as1, e_as2, e_as3, e_par, e_pr, e_pr2, e_it, e_i1, e_i2L, e_i2T, e_r1, e_kr1, e_for, e_kfor, e_l0, e_l1, e_l2, e_l3, e_l3c, e_l3b, e_l3r, e_w1, e_wT, e_wF, e_w2, e_fn, e_kfn, e_kfnN, e_kfn2, e_ent, e_out0, e_outN, e_outT, e_outF, e_kout, e_md0, e_md1, e_md2, e_md3, e_call, e_c1, e_c2, e_c3, e_c4, e_en, e_en0, e_es0, e_es, e_e1, e_e0, e_e2, e_e3, e_kp, e_kpL, e_kpD, e_fsS, e_fsF, e_fsA, e_fsL, e_kfr, e_le0, e_le1, e_le2, e_comp, e_lc, e_lc2, e_m0, e_m1, e_m2, e_m3, e_m3F, e_m4, e_m5, e_yes, e_wi0, e_wi1, e_star, e_star2, e_star3, e_isi, e_is1, e_is2, e_orE, e_orE1, e_orE2, e_app, e_ap1, e_ap2, e_ap3, e_ap4, e_ap5, e_ext, e_ex1, e_ex2, e_ex3, e_ex4, e_ex5, e_ch, e_ch1, e_ch2, e_ch3, e_ch4, e_ch5, List.length_cons, List.length_nil, List.map_cons, List.map_nil, Nat.reduceAdd, Nat.reduceSub, List.replicate_succ, List.replicate_zero, List.cons_append, List.nil_append, List.append_nil, List.getElem?_cons_zero, List.getElem?_cons_succ, List.set_cons_zero, List.set_cons_succ, ags, ite_true, if_true, g_add, g_sub, g_lt, g_le, g_gt, g_ge, g_eqI, g_neI, g_abs, g_gcd, g_is, g_isNot, ok0, ok1, ok2, ok3, ok4, ok5, ok6, ok7, ok8, ok9, ok10, ok11, ok12, ok13, ok14, ok15]
theorem two_mem {α : Type} {P : α → Prop} {p q : α} (h : P p) (h2 : P q) : ∀ x ∈ [p, q], P x := fun x hx => by
  rcases List.mem_cons.mp hx with e | hx
  · subst e; exact h
  · rcases List.mem_cons.mp hx with e | hx
    · subst e; exact h2
    · cases hx
/-- the size up to which values are computed -/
abbrev M9 : Nat := 900
theorem sum2 {p q : Rat} (h : Sz M9 p) (h2 : Sz M9 q) : g_fraction_sum_s [.fz (fD p), .fz (fD q)] = some (.fz (fD (p + q)), [.fz (fD p), .fz (fD q)]) := by
  have e := fsum_ok [p, q] (two_mem h h2) (by show 1 + (900 + 1) * 2 + 900 ≤ 4000; decide)
  have z : (0 : Rat) + p = p := by grind
  simp only [List.map_cons, List.map_nil, List.foldl_cons, List.foldl_nil, z] at e
  simp only [g_fraction_sum_s, e_seq, e_kseq, e_kseqR, e_kseqB, e_kseqC, e_skip, e_if, e_ifT, e_ifF, e_ret, e_kret, e_kretL, e_kretD, e_kretA, e_kretA2, e_set, e_kset, e_ksetL, e_ksetD, e_ksetS, e_ksetA, e_ksetA2, e_expr, e_knx, e_cvF, e_cvS, e_cvL, e_cvD, e_cfF, e_cfL, e_cdF, e_cdL, e_ckD, e_clL, e_pkF, e_pkL, e_pkA, e_fzF, e_fzL, e_fzA, e_var, e_c, e_op, e_o1, e_o2, e_o3, e_o4, e_tst, e_kt, e_and, e_andT, e_andF, e_or, e_orT, e_orF, e_not, e_knot, e_andV, e_andVT, e_andVF, e_orV, e_orVT, e_orVF, e_notV, e_knotV, e_ifE, e_ifET, e_ifEF, e_neg, e_kneg, e_nil, e_cons, e_a1F, e_a1S, e_a1L, e_a1A, e_a2, e_fa0, e_fa1, e_fa2, e_fa3, e_tup, e_ktup, e_ktup2, e_lst, e_klst, e_klst2, e_pa0, e_pa1, e_pa2, e_pa3, e_cl, e_kcl, e_kcl2, e_dget, e_d1, e_d2, e_d2i, e_d3, e_d4, e_dput, e_p1, e_p2, e_p3, e_p4, e_p5, e_knil, e_kcons, e_k1, e_k2, e_k3, e_disp, e_k4, e_nop, e_somep, e_ksome, e_sl, e_s1, e_s2, e_s3, e_gnm, e_gtp, e_gnil, e_gcons, e_kg, e_asg, e_as1, e_as2, e_as3, e_par, e_pr, e_pr2, e_it, e_i1, e_i2L, e_i2T, e_r1, e_kr1, e_for, e_kfor, e_l0, e_l1, e_l2, e_l3, e_l3c, e_l3b, e_l3r, e_w1, e_wT, e_wF, e_w2, e_fn, e_kfn, e_kfnN, e_kfn2, e_ent, e_out0, e_outN, e_outT, e_outF, e_kout, e_md0, e_md1, e_md2, e_md3, e_call, e_c1, e_c2, e_c3, e_c4, e_en, e_en0, e_es0, e_es, e_e1, e_e0, e_e2, e_e3, e_kp, e_kpL, e_kpD, e_fsS, e_fsF, e_fsA, e_fsL, e_kfr, e_le0, e_le1, e_le2, e_comp, e_lc, e_lc2, e_m0, e_m1, e_m2, e_m3, e_m3F, e_m4, e_m5, e_yes, e_wi0, e_wi1, e_star, e_star2, e_star3, e_isi, e_is1, e_is2, e_orE, e_orE1, e_orE2, e_app, e_ap1, e_ap2, e_ap3, e_ap4, e_ap5, e_ext, e_ex1, e_ex2, e_ex3, e_ex4, e_ex5, e_ch, e_ch1, e_ch2, e_ch3, e_ch4, e_ch5, List.length_cons, List.length_nil, List.map_cons, List.map_nil, Nat.reduceAdd, Nat.reduceSub, List.replicate_succ, List.replicate_zero, List.cons_append, List.nil_append, List.append_nil, List.getElem?_cons_zero, List.getElem?_cons_succ, List.set_cons_zero, List.set_cons_succ, ags, ite_true, if_true, g_add, g_sub, g_lt, g_le, g_gt, g_ge, g_eqI, g_neI, g_abs, g_gcd, g_is, g_isNot, ok0, ok1, ok2, ok3, ok4, ok5, ok6, ok7, ok8, ok9, ok10, ok11, ok12, ok13, ok14, ok15, e]
theorem prod2 {p q : Rat} (h : Sz M9 p) (h2 : Sz M9 q) : g_fraction_product_s [.fz (fD p), .fz (fD q)] = some (.fz (fD (p * q)), [.fz (fD p), .fz (fD q)]) := by
  have e := fprod_ok [p, q] (two_mem h h2) (by show 1 + 900 * 2 + 900 ≤ 4000; decide)
  have z : (1 : Rat) * p = p := by grind
  simp only [List.map_cons, List.map_nil, List.foldl_cons, List.foldl_nil, z] at e
  simp only [g_fraction_product_s, e_seq, e_kseq, e_kseqR, e_kseqB, e_kseqC, e_skip, e_if, e_ifT, e_ifF, e_ret, e_kret, e_kretL, e_kretD, e_kretA, e_kretA2, e_set, e_kset, e_ksetL, e_ksetD, e_ksetS, e_ksetA, e_ksetA2, e_expr, e_knx, e_cvF, e_cvS, e_cvL, e_cvD, e_cfF, e_cfL, e_cdF, e_cdL, e_ckD, e_clL, e_pkF, e_pkL, e_pkA, e_fzF, e_fzL, e_fzA, e_var, e_c, e_op, e_o1, e_o2, e_o3, e_o4, e_tst, e_kt, e_and, e_andT, e_andF, e_or, e_orT, e_orF, e_not, e_knot, e_andV, e_andVT, e_andVF, e_orV, e_orVT, e_orVF, e_notV, e_knotV, e_ifE, e_ifET, e_ifEF, e_neg, e_kneg, e_nil, e_cons, e_a1F, e_a1S, e_a1L, e_a1A, e_a2, e_fa0, e_fa1, e_fa2, e_fa3, e_tup, e_ktup, e_ktup2, e_lst, e_klst, e_klst2, e_pa0, e_pa1, e_pa2, e_pa3, e_cl, e_kcl, e_kcl2, e_dget, e_d1, e_d2, e_d2i, e_d3, e_d4, e_dput, e_p1, e_p2, e_p3, e_p4, e_p5, e_knil, e_kcons, e_k1, e_k2, e_k3, e_disp, e_k4, e_nop, e_somep, e_ksome, e_sl, e_s1, e_s2, e_s3, e_gnm, e_gtp, e_gnil, e_gcons, e_kg, e_asg, e_as1, e_as2, e_as3, e_par, e_pr, e_pr2, e_it, e_i1, e_i2L, e_i2T, e_r1, e_kr1, e_for, e_kfor, e_l0, e_l1, e_l2, e_l3, e_l3c, e_l3b, e_l3r, e_w1, e_wT, e_wF, e_w2, e_fn, e_kfn, e_kfnN, e_kfn2, e_ent, e_out0, e_outN, e_outT, e_outF, e_kout, e_md0, e_md1, e_md2, e_md3, e_call, e_c1, e_c2, e_c3, e_c4, e_en, e_en0, e_es0, e_es, e_e1, e_e0, e_e2, e_e3, e_kp, e_kpL, e_kpD, e_fsS, e_fsF, e_fsA, e_fsL, e_kfr, e_le0, e_le1, e_le2, e_comp, e_lc, e_lc2, e_m0, e_m1, e_m2, e_m3, e_m3F, e_m4, e_m5, e_yes, e_wi0, e_wi1, e_star, e_star2, e_star3, e_isi, e_is1, e_is2, e_orE, e_orE1, e_orE2, e_app, e_ap1, e_ap2, e_ap3, e_ap4, e_ap5, e_ext, e_ex1, e_ex2, e_ex3, e_ex4, e_ex5, e_ch, e_ch1, e_ch2, e_ch3, e_ch4, e_ch5, List.length_cons, List.length_nil, List.map_cons, List.map_nil, Nat.reduceAdd, Nat.reduceSub, List.replicate_succ, List.replicate_zero, List.cons_append, List.nil_append, List.append_nil, List.getElem?_cons_zero, List.getElem?_cons_succ, List.set_cons_zero, List.set_cons_succ, ags, ite_true, if_true, g_add, g_sub, g_lt, g_le, g_gt, g_ge, g_eqI, g_neI, g_abs, g_gcd, g_is, g_isNot, ok0, ok1, ok2, ok3, ok4, ok5, ok6, ok7, ok8, ok9, ok10, ok11, ok12, ok13, ok14, ok15, e]
theorem num_eq {p q : Rat} : p.num * (q.den : Int) = q.num * (p.den : Int) ↔ p = q := by
  constructor
  · intro h
    have a := Rat.num_divInt_den p
    have b := Rat.num_divInt_den q
    rw [← a, ← b]
    exact (Rat.divInt_eq_divInt_iff (by have := den_pos p; omega) (by have := den_pos q; omega)).mpr h
  · intro h; subst h; rfl
def cmpR (p q : Rat) : Int := if p = q then 0 else if p < q then -1 else 1
theorem compared_ok {p q : Rat} (h : Sz 4000 p) (h2 : Sz 4000 q) : g_compared_2 [.fz (fD p), .fz (fD q)] = some (.fz (.int (cmpR p q)), [.fz (fD p), .fz (fD q)]) := by
  by_cases c : p = q
  · have c' := num_eq.mpr c
    rw [show cmpR p q = 0 from if_pos c]
    simp only [g_compared_2, g_compared, m_compared, e_seq, e_kseq, e_kseqR, e_kseqB, e_kseqC, e_skip, e_if, e_ifT, e_ifF, e_ret, e_kret, e_kretL, e_kretD, e_kretA, e_kretA2, e_set, e_kset, e_ksetL, e_ksetD, e_ksetS, e_ksetA, e_ksetA2, e_expr, e_knx, e_cvF, e_cvS, e_cvL, e_cvD, e_cfF, e_cfL, e_cdF, e_cdL, e_ckD, e_clL, e_pkF, e_pkL, e_pkA, e_fzF, e_fzL, e_fzA, e_var, e_c, e_op, e_o1, e_o2, e_o3, e_o4, e_tst, e_kt, e_and, e_andT, e_andF, e_or, e_orT, e_orF, e_not, e_knot, e_andV, e_andVT, e_andVF, e_orV, e_orVT, e_orVF, e_notV, e_knotV, e_ifE, e_ifET, e_ifEF, e_neg, e_kneg, e_nil, e_cons, e_a1F, e_a1S, e_a1L, e_a1A, e_a2, e_fa0, e_fa1, e_fa2, e_fa3, e_tup, e_ktup, e_ktup2, e_lst, e_klst, e_klst2, e_pa0, e_pa1, e_pa2, e_pa3, e_cl, e_kcl, e_kcl2, e_dget, e_d1, e_d2, e_d2i, e_d3, e_d4, e_dput, e_p1, e_p2, e_p3, e_p4, e_p5, e_knil, e_kcons, e_k1, e_k2, e_k3, e_disp, e_k4, e_nop, e_somep, e_ksome, e_sl, e_s1, e_s2, e_s3, e_gnm, e_gtp, e_gnil, e_gcons, e_kg, e_asg, e_as1, e_as2, e_as3, e_par, e_pr, e_pr2, e_it, e_i1, e_i2L, e_i2T, e_r1, e_kr1, e_for, e_kfor, e_l0, e_l1, e_l2, e_l3, e_l3c, e_l3b, e_l3r, e_w1, e_wT, e_wF, e_w2, e_fn, e_kfn, e_kfnN, e_kfn2, e_ent, e_out0, e_outN, e_outT, e_outF, e_kout, e_md0, e_md1, e_md2, e_md3, e_call, e_c1, e_c2, e_c3, e_c4, e_en, e_en0, e_es0, e_es, e_e1, e_e0, e_e2, e_e3, e_kp, e_kpL, e_kpD, e_fsS, e_fsF, e_fsA, e_fsL, e_kfr, e_le0, e_le1, e_le2, e_comp, e_lc, e_lc2, e_m0, e_m1, e_m2, e_m3, e_m3F, e_m4, e_m5, e_yes, e_wi0, e_wi1, e_star, e_star2, e_star3, e_isi, e_is1, e_is2, e_orE, e_orE1, e_orE2, e_app, e_ap1, e_ap2, e_ap3, e_ap4, e_ap5, e_ext, e_ex1, e_ex2, e_ex3, e_ex4, e_ex5, e_ch, e_ch1, e_ch2, e_ch3, e_ch4, e_ch5, List.length_cons, List.length_nil, List.map_cons, List.map_nil, Nat.reduceAdd, Nat.reduceSub, List.replicate_succ, List.replicate_zero, List.cons_append, List.nil_append, List.append_nil, List.getElem?_cons_zero, List.getElem?_cons_succ, List.set_cons_zero, List.set_cons_succ, ags, ite_true, if_true, g_add, g_sub, g_lt, g_le, g_gt, g_ge, g_eqI, g_neI, g_abs, g_gcd, g_is, g_isNot, ok0, ok1, ok2, ok3, ok4, ok5, ok6, ok7, ok8, ok9, ok10, ok11, ok12, ok13, ok14, ok15, f_0, f_1, gm (nm4 h) (dn4 h2), gm (nm4 h2) (dn4 h), c', decide_true]
  · have c' : ¬ (p.num * (q.den : Int) = q.num * (p.den : Int)) := fun z => c (num_eq.mp z)
    by_cases d : p < q
    · have d' : p.num * (q.den : Int) < q.num * (p.den : Int) := (Rat.lt_iff _ _).mp d
      rw [show cmpR p q = -1 by rw [cmpR, if_neg c, if_pos d]]
      simp only [g_compared_2, g_compared, m_compared, e_seq, e_kseq, e_kseqR, e_kseqB, e_kseqC, e_skip, e_if, e_ifT, e_ifF, e_ret, e_kret, e_kretL, e_kretD, e_kretA, e_kretA2, e_set, e_kset, e_ksetL, e_ksetD, e_ksetS, e_ksetA, e_ksetA2, e_expr, e_knx, e_cvF, e_cvS, e_cvL, e_cvD, e_cfF, e_cfL, e_cdF, e_cdL, e_ckD, e_clL, e_pkF, e_pkL, e_pkA, e_fzF, e_fzL, e_fzA, e_var, e_c, e_op, e_o1, e_o2, e_o3, e_o4, e_tst, e_kt, e_and, e_andT, e_andF, e_or, e_orT, e_orF, e_not, e_knot, e_andV, e_andVT, e_andVF, e_orV, e_orVT, e_orVF, e_notV, e_knotV, e_ifE, e_ifET, e_ifEF, e_neg, e_kneg, e_nil, e_cons, e_a1F, e_a1S, e_a1L, e_a1A, e_a2, e_fa0, e_fa1, e_fa2, e_fa3, e_tup, e_ktup, e_ktup2, e_lst, e_klst, e_klst2, e_pa0, e_pa1, e_pa2, e_pa3, e_cl, e_kcl, e_kcl2, e_dget, e_d1, e_d2, e_d2i, e_d3, e_d4, e_dput, e_p1, e_p2, e_p3, e_p4, e_p5, e_knil, e_kcons, e_k1, e_k2, e_k3, e_disp, e_k4, e_nop, e_somep, e_ksome, e_sl, e_s1, e_s2, e_s3, e_gnm, e_gtp, e_gnil, e_gcons, e_kg, e_asg, e_as1, e_as2, e_as3, e_par, e_pr, e_pr2, e_it, e_i1, e_i2L, e_i2T, e_r1, e_kr1, e_for, e_kfor, e_l0, e_l1, e_l2, e_l3, e_l3c, e_l3b, e_l3r, e_w1, e_wT, e_wF, e_w2, e_fn, e_kfn, e_kfnN, e_kfn2, e_ent, e_out0, e_outN, e_outT, e_outF, e_kout, e_md0, e_md1, e_md2, e_md3, e_call, e_c1, e_c2, e_c3, e_c4, e_en, e_en0, e_es0, e_es, e_e1, e_e0, e_e2, e_e3, e_kp, e_kpL, e_kpD, e_fsS, e_fsF, e_fsA, e_fsL, e_kfr, e_le0, e_le1, e_le2, e_comp, e_lc, e_lc2, e_m0, e_m1, e_m2, e_m3, e_m3F, e_m4, e_m5, e_yes, e_wi0, e_wi1, e_star, e_star2, e_star3, e_isi, e_is1, e_is2, e_orE, e_orE1, e_orE2, e_app, e_ap1, e_ap2, e_ap3, e_ap4, e_ap5, e_ext, e_ex1, e_ex2, e_ex3, e_ex4, e_ex5, e_ch, e_ch1, e_ch2, e_ch3, e_ch4, e_ch5, List.length_cons, List.length_nil, List.map_cons, List.map_nil, Nat.reduceAdd, Nat.reduceSub, List.replicate_succ, List.replicate_zero, List.cons_append, List.nil_append, List.append_nil, List.getElem?_cons_zero, List.getElem?_cons_succ, List.set_cons_zero, List.set_cons_succ, ags, ite_true, if_true, g_add, g_sub, g_lt, g_le, g_gt, g_ge, g_eqI, g_neI, g_abs, g_gcd, g_is, g_isNot, ok0, ok1, ok2, ok3, ok4, ok5, ok6, ok7, ok8, ok9, ok10, ok11, ok12, ok13, ok14, ok15, f_0, f_1, gm (nm4 h) (dn4 h2), gm (nm4 h2) (dn4 h), c', d', decide_true, decide_false]
    · have d' : ¬ p.num * (q.den : Int) < q.num * (p.den : Int) := fun z => d ((Rat.lt_iff _ _).mpr z)
      rw [show cmpR p q = 1 by rw [cmpR, if_neg c, if_neg d]]
      simp only [g_compared_2, g_compared, m_compared, e_seq, e_kseq, e_kseqR, e_kseqB, e_kseqC, e_skip, e_if, e_ifT, e_ifF, e_ret, e_kret, e_kretL, e_kretD, e_kretA, e_kretA2, e_set, e_kset, e_ksetL, e_ksetD, e_ksetS, e_ksetA, e_ksetA2, e_expr, e_knx, e_cvF, e_cvS, e_cvL, e_cvD, e_cfF, e_cfL, e_cdF, e_cdL, e_ckD, e_clL, e_pkF, e_pkL, e_pkA, e_fzF, e_fzL, e_fzA, e_var, e_c, e_op, e_o1, e_o2, e_o3, e_o4, e_tst, e_kt, e_and, e_andT, e_andF, e_or, e_orT, e_orF, e_not, e_knot, e_andV, e_andVT, e_andVF, e_orV, e_orVT, e_orVF, e_notV, e_knotV, e_ifE, e_ifET, e_ifEF, e_neg, e_kneg, e_nil, e_cons, e_a1F, e_a1S, e_a1L, e_a1A, e_a2, e_fa0, e_fa1, e_fa2, e_fa3, e_tup, e_ktup, e_ktup2, e_lst, e_klst, e_klst2, e_pa0, e_pa1, e_pa2, e_pa3, e_cl, e_kcl, e_kcl2, e_dget, e_d1, e_d2, e_d2i, e_d3, e_d4, e_dput, e_p1, e_p2, e_p3, e_p4, e_p5, e_knil, e_kcons, e_k1, e_k2, e_k3, e_disp, e_k4, e_nop, e_somep, e_ksome, e_sl, e_s1, e_s2, e_s3, e_gnm, e_gtp, e_gnil, e_gcons, e_kg, e_asg, e_as1, e_as2, e_as3, e_par, e_pr, e_pr2, e_it, e_i1, e_i2L, e_i2T, e_r1, e_kr1, e_for, e_kfor, e_l0, e_l1, e_l2, e_l3, e_l3c, e_l3b, e_l3r, e_w1, e_wT, e_wF, e_w2, e_fn, e_kfn, e_kfnN, e_kfn2, e_ent, e_out0, e_outN, e_outT, e_outF, e_kout, e_md0, e_md1, e_md2, e_md3, e_call, e_c1, e_c2, e_c3, e_c4, e_en, e_en0, e_es0, e_es, e_e1, e_e0, e_e2, e_e3, e_kp, e_kpL, e_kpD, e_fsS, e_fsF, e_fsA, e_fsL, e_kfr, e_le0, e_le1, e_le2, e_comp, e_lc, e_lc2, e_m0, e_m1, e_m2, e_m3, e_m3F, e_m4, e_m5, e_yes, e_wi0, e_wi1, e_star, e_star2, e_star3, e_isi, e_is1, e_is2, e_orE, e_orE1, e_orE2, e_app, e_ap1, e_ap2, e_ap3, e_ap4, e_ap5, e_ext, e_ex1, e_ex2, e_ex3, e_ex4, e_ex5, e_ch, e_ch1, e_ch2, e_ch3, e_ch4, e_ch5, List.length_cons, List.length_nil, List.map_cons, List.map_nil, Nat.reduceAdd, Nat.reduceSub, List.replicate_succ, List.replicate_zero, List.cons_append, List.nil_append, List.append_nil, List.getElem?_cons_zero, List.getElem?_cons_succ, List.set_cons_zero, List.set_cons_succ, ags, ite_true, if_true, g_add, g_sub, g_lt, g_le, g_gt, g_ge, g_eqI, g_neI, g_abs, g_gcd, g_is, g_isNot, ok0, ok1, ok2, ok3, ok4, ok5, ok6, ok7, ok8, ok9, ok10, ok11, ok12, ok13, ok14, ok15, f_0, f_1, gm (nm4 h) (dn4 h2), gm (nm4 h2) (dn4 h), c', d', decide_true, decide_false]
end LW

namespace LW
open L2 PySem PySem.Spec PyProof.Rows DL
set_option maxHeartbeats 0
abbrev fdL (cells : List Int) (at_ left cnt : Int) : List (Key × PyData) := [(.inr "cells", .list (cells.map .int)), (.inr "at", .int at_), (.inr "left", .int left), (.inr "count", .int cnt)]
section
variable {c : List Int} {a l n x : Int}
theorem v1 : valD (fdL c a l n) (.inr "cells") = some (.list (c.map .int)) := by kernel_rfl
theorem v2 : valD (fdL c a l n) (.inr "at") = some (.int a) := by kernel_rfl
theorem v3 : valD (fdL c a l n) (.inr "left") = some (.int l) := by kernel_rfl
theorem v4 : valD (fdL c a l n) (.inr "count") = some (.int n) := by kernel_rfl
theorem p2 : putD (fdL c a l n) (.inr "at") (.int x) = fdL c x l n := by kernel_rfl
theorem p3 : putD (fdL c a l n) (.inr "left") (.int x) = fdL c a x n := by kernel_rfl
theorem p4 : putD (fdL c a l n) (.inr "count") (.int x) = fdL c a l x := by kernel_rfl
end
theorem draw_ok (c : List Int) (a l n m : Int) (hm : 0 < m) (hm2 : m.natAbs.log2 < 9000) (ha : 0 ≤ a) (hn : 0 ≤ n) (hn2 : n < 1000000000) : ∃ d a' l', 0 ≤ a' ∧ g__law_draw [.od (fdL c a l n), .fz (.int m)] = some (.fz (.int d), [.od (fdL c a' l' (n + 1)), .fz (.int m)]) ∧ 0 ≤ d ∧ d < m := by
  by_cases hl : 0 < l
  · refine ⟨l % m, a, l / m, ha, ?_, Int.emod_nonneg _ (by omega), Int.emod_lt_of_pos _ hm⟩
    simp only [g__law_draw, m__law_draw, e_seq, e_kseq, e_kseqR, e_kseqB, e_kseqC, e_skip, e_if, e_ifT, e_ifF, e_ret, e_kret, e_kretL, e_kretD, e_kretA, e_kretA2, e_set, e_kset, e_ksetL, e_ksetD, e_ksetS, e_ksetA, e_ksetA2, e_expr, e_knx, e_cvF, e_cvS, e_cvL, e_cvD, e_cfF, e_cfL, e_cdF, e_cdL, e_ckD, e_clL, e_pkF, e_pkL, e_pkA, e_fzF, e_fzL, e_fzA, e_var, e_c, e_op, e_o1, e_o2, e_o3, e_o4, e_tst, e_kt, e_and, e_andT, e_andF, e_or, e_orT, e_orF, e_not, e_knot, e_andV, e_andVT, e_andVF, e_orV, e_orVT, e_orVF, e_notV, e_knotV, e_ifE, e_ifET, e_ifEF, e_neg, e_kneg, e_nil, e_cons, e_a1F, e_a1S, e_a1L, e_a1A, e_a2, e_fa0, e_fa1, e_fa2, e_fa3, e_tup, e_ktup, e_ktup2, e_lst, e_klst, e_klst2, e_pa0, e_pa1, e_pa2, e_pa3, e_cl, e_kcl, e_kcl2, e_dget, e_d1, e_d2, e_d2i, e_d3, e_d4, e_dput, e_p1, e_p2, e_p3, e_p4, e_p5, e_knil, e_kcons, e_k1, e_k2, e_k3, e_disp, e_k4, e_nop, e_somep, e_ksome, e_sl, e_s1, e_s2, e_s3, e_gnm, e_gtp, e_gnil, e_gcons, e_kg, e_asg, e_as1, e_as2, e_as3, e_par, e_pr, e_pr2, e_it, e_i1, e_i2L, e_i2T, e_r1, e_kr1, e_for, e_kfor, e_l0, e_l1, e_l2, e_l3, e_l3c, e_l3b, e_l3r, e_w1, e_wT, e_wF, e_w2, e_fn, e_kfn, e_kfnN, e_kfn2, e_ent, e_out0, e_outN, e_outT, e_outF, e_kout, e_md0, e_md1, e_md2, e_md3, e_call, e_c1, e_c2, e_c3, e_c4, e_en, e_en0, e_es0, e_es, e_e1, e_e0, e_e2, e_e3, e_kp, e_kpL, e_kpD, e_fsS, e_fsF, e_fsA, e_fsL, e_kfr, e_le0, e_le1, e_le2, e_comp, e_lc, e_lc2, e_m0, e_m1, e_m2, e_m3, e_m3F, e_m4, e_m5, e_yes, e_wi0, e_wi1, e_star, e_star2, e_star3, e_isi, e_is1, e_is2, e_orE, e_orE1, e_orE2, e_app, e_ap1, e_ap2, e_ap3, e_ap4, e_ap5, e_ext, e_ex1, e_ex2, e_ex3, e_ex4, e_ex5, e_ch, e_ch1, e_ch2, e_ch3, e_ch4, e_ch5, List.length_cons, List.length_nil, List.map_cons, List.map_nil, Nat.reduceAdd, Nat.reduceSub, List.replicate_succ, List.replicate_zero, List.cons_append, List.nil_append, List.append_nil, List.getElem?_cons_zero, List.getElem?_cons_succ, List.set_cons_zero, List.set_cons_succ, ags, ite_true, if_true, g_add, g_sub, g_lt, g_le, g_gt, g_ge, g_eqI, g_neI, g_abs, g_gcd, g_is, g_isNot, ok0, ok1, ok2, ok3, ok4, ok5, ok6, ok7, ok8, ok9, ok10, ok11, ok12, ok13, ok14, ok15, v1, v2, v3, v4, p2, p3, p4, hl, decide_true, g_mod hm, g_div hm hm2]
  · obtain ⟨cell, hc⟩ : ∃ cell : Int, kIfE (opF gIx (dgetF (varF 0) (cF (PyData.str (Str.ofString "cells")))) (opF gMod (varF 3) (clF gLen (consF (dgetF (varF 0) (cF (PyData.str (Str.ofString "cells")))) nilF))))
                (cF (PyData.int 53)) (kT (kO4 (gNe (PyData.list (List.map PyData.int c)) (PyData.list [])) [some (S.od (fdL c (a + 1) l (n + 1))), some (S.fz (PyData.int m)), none, some (S.fz (PyData.int a)), none, none])) =
                some (.fz (.int cell), [some (S.od (fdL c (a + 1) l (n + 1))), some (S.fz (PyData.int m)), none, some (S.fz (PyData.int a)), none, none]) := by
      cases c with
      | nil => exact ⟨53, by rw [ne_nil_ints]; simp only [e_seq, e_kseq, e_kseqR, e_kseqB, e_kseqC, e_skip, e_if, e_ifT, e_ifF, e_ret, e_kret, e_kretL, e_kretD, e_kretA, e_kretA2, e_set, e_kset, e_ksetL, e_ksetD, e_ksetS, e_ksetA, e_ksetA2, e_expr, e_knx, e_cvF, e_cvS, e_cvL, e_cvD, e_cfF, e_cfL, e_cdF, e_cdL, e_ckD, e_clL, e_pkF, e_pkL, e_pkA, e_fzF, e_fzL, e_fzA, e_var, e_c, e_op, e_o1, e_o2, e_o3, e_o4, e_tst, e_kt, e_and, e_andT, e_andF, e_or, e_orT, e_orF, e_not, e_knot, e_andV, e_andVT, e_andVF, e_orV, e_orVT, e_orVF, e_notV, e_knotV, e_ifE, e_ifET, e_ifEF, e_neg, e_kneg, e_nil, e_cons, e_a1F, e_a1S, e_a1L, e_a1A, e_a2, e_fa0, e_fa1, e_fa2, e_fa3, e_tup, e_ktup, e_ktup2, e_lst, e_klst, e_klst2, e_pa0, e_pa1, e_pa2, e_pa3, e_cl, e_kcl, e_kcl2, e_dget, e_d1, e_d2, e_d2i, e_d3, e_d4, e_dput, e_p1, e_p2, e_p3, e_p4, e_p5, e_knil, e_kcons, e_k1, e_k2, e_k3, e_disp, e_k4, e_nop, e_somep, e_ksome, e_sl, e_s1, e_s2, e_s3, e_gnm, e_gtp, e_gnil, e_gcons, e_kg, e_asg, e_as1, e_as2, e_as3, e_par, e_pr, e_pr2, e_it, e_i1, e_i2L, e_i2T, e_r1, e_kr1, e_for, e_kfor, e_l0, e_l1, e_l2, e_l3, e_l3c, e_l3b, e_l3r, e_w1, e_wT, e_wF, e_w2, e_fn, e_kfn, e_kfnN, e_kfn2, e_ent, e_out0, e_outN, e_outT, e_outF, e_kout, e_md0, e_md1, e_md2, e_md3, e_call, e_c1, e_c2, e_c3, e_c4, e_en, e_en0, e_es0, e_es, e_e1, e_e0, e_e2, e_e3, e_kp, e_kpL, e_kpD, e_fsS, e_fsF, e_fsA, e_fsL, e_kfr, e_le0, e_le1, e_le2, e_comp, e_lc, e_lc2, e_m0, e_m1, e_m2, e_m3, e_m3F, e_m4, e_m5, e_yes, e_wi0, e_wi1, e_star, e_star2, e_star3, e_isi, e_is1, e_is2, e_orE, e_orE1, e_orE2, e_app, e_ap1, e_ap2, e_ap3, e_ap4, e_ap5, e_ext, e_ex1, e_ex2, e_ex3, e_ex4, e_ex5, e_ch, e_ch1, e_ch2, e_ch3, e_ch4, e_ch5, List.length_cons, List.length_nil, List.map_cons, List.map_nil, Nat.reduceAdd, Nat.reduceSub, List.replicate_succ, List.replicate_zero, List.cons_append, List.nil_append, List.append_nil, List.getElem?_cons_zero, List.getElem?_cons_succ, List.set_cons_zero, List.set_cons_succ, ags, ite_true, if_true, g_add, g_sub, g_lt, g_le, g_gt, g_ge, g_eqI, g_neI, g_abs, g_gcd, g_is, g_isNot, ok0, ok1, ok2, ok3, ok4, ok5, ok6, ok7, ok8, ok9, ok10, ok11, ok12, ok13, ok14, ok15, List.isEmpty, Bool.not_true]⟩
      | cons i c =>
        have hp : (0 : Int) < ((i :: c).length : Int) := by rw [List.length_cons]; omega
        have b1 := Int.emod_nonneg a (Int.ne_of_gt hp)
        have b2 := Int.emod_lt_of_pos a hp
        have b3 : (a % ((i :: c).length : Int)).toNat < (i :: c).length := by omega
        have hj : ((i :: c).map PyData.int)[(a % ((i :: c).length : Int)).toNat]? = some (.int (i :: c)[(a % ((i :: c).length : Int)).toNat]) := by rw [List.getElem?_map, List.getElem?_eq_getElem b3]; rfl
        have gi := ix_list b1 hj
        refine ⟨(i :: c)[(a % ((i :: c).length : Int)).toNat], ?_⟩
        rw [ne_nil_ints]
        generalize hq : (i :: c) = cs at *
        have hq2 : cs.isEmpty = false := by rw [← hq]; rfl
        simp only [e_seq, e_kseq, e_kseqR, e_kseqB, e_kseqC, e_skip, e_if, e_ifT, e_ifF, e_ret, e_kret, e_kretL, e_kretD, e_kretA, e_kretA2, e_set, e_kset, e_ksetL, e_ksetD, e_ksetS, e_ksetA, e_ksetA2, e_expr, e_knx, e_cvF, e_cvS, e_cvL, e_cvD, e_cfF, e_cfL, e_cdF, e_cdL, e_ckD, e_clL, e_pkF, e_pkL, e_pkA, e_fzF, e_fzL, e_fzA, e_var, e_c, e_op, e_o1, e_o2, e_o3, e_o4, e_tst, e_kt, e_and, e_andT, e_andF, e_or, e_orT, e_orF, e_not, e_knot, e_andV, e_andVT, e_andVF, e_orV, e_orVT, e_orVF, e_notV, e_knotV, e_ifE, e_ifET, e_ifEF, e_neg, e_kneg, e_nil, e_cons, e_a1F, e_a1S, e_a1L, e_a1A, e_a2, e_fa0, e_fa1, e_fa2, e_fa3, e_tup, e_ktup, e_ktup2, e_lst, e_klst, e_klst2, e_pa0, e_pa1, e_pa2, e_pa3, e_cl, e_kcl, e_kcl2, e_dget, e_d1, e_d2, e_d2i, e_d3, e_d4, e_dput, e_p1, e_p2, e_p3, e_p4, e_p5, e_knil, e_kcons, e_k1, e_k2, e_k3, e_disp, e_k4, e_nop, e_somep, e_ksome, e_sl, e_s1, e_s2, e_s3, e_gnm, e_gtp, e_gnil, e_gcons, e_kg, e_asg, e_as1, e_as2, e_as3, e_par, e_pr, e_pr2, e_it, e_i1, e_i2L, e_i2T, e_r1, e_kr1, e_for, e_kfor, e_l0, e_l1, e_l2, e_l3, e_l3c, e_l3b, e_l3r, e_w1, e_wT, e_wF, e_w2, e_fn, e_kfn, e_kfnN, e_kfn2, e_ent, e_out0, e_outN, e_outT, e_outF, e_kout, e_md0, e_md1, e_md2, e_md3, e_call, e_c1, e_c2, e_c3, e_c4, e_en, e_en0, e_es0, e_es, e_e1, e_e0, e_e2, e_e3, e_kp, e_kpL, e_kpD, e_fsS, e_fsF, e_fsA, e_fsL, e_kfr, e_le0, e_le1, e_le2, e_comp, e_lc, e_lc2, e_m0, e_m1, e_m2, e_m3, e_m3F, e_m4, e_m5, e_yes, e_wi0, e_wi1, e_star, e_star2, e_star3, e_isi, e_is1, e_is2, e_orE, e_orE1, e_orE2, e_app, e_ap1, e_ap2, e_ap3, e_ap4, e_ap5, e_ext, e_ex1, e_ex2, e_ex3, e_ex4, e_ex5, e_ch, e_ch1, e_ch2, e_ch3, e_ch4, e_ch5, List.length_cons, List.length_nil, List.map_cons, List.map_nil, Nat.reduceAdd, Nat.reduceSub, List.replicate_succ, List.replicate_zero, List.cons_append, List.nil_append, List.append_nil, List.getElem?_cons_zero, List.getElem?_cons_succ, List.set_cons_zero, List.set_cons_succ, ags, ite_true, if_true, g_add, g_sub, g_lt, g_le, g_gt, g_ge, g_eqI, g_neI, g_abs, g_gcd, g_is, g_isNot, ok0, ok1, ok2, ok3, ok4, ok5, ok6, ok7, ok8, ok9, ok10, ok11, ok12, ok13, ok14, ok15, v1, hq2, Bool.not_false, gl_list, List.length_map, g_mod hp, gi]
    have pw : gPow (.int 10) (.int 18) = some (.fz (.int 1000000000000000000)) := by kernel_rfl
    by_cases h1 : (1000000000000000000 ≤ cell) ∧ a < c.length
    · refine ⟨cell % m, a + 1, cell / m, by omega, ?_, Int.emod_nonneg _ (by omega), Int.emod_lt_of_pos _ hm⟩
      simp only [g__law_draw, m__law_draw, e_seq, e_kseq, e_kseqR, e_kseqB, e_kseqC, e_skip, e_if, e_ifT, e_ifF, e_ret, e_kret, e_kretL, e_kretD, e_kretA, e_kretA2, e_set, e_kset, e_ksetL, e_ksetD, e_ksetS, e_ksetA, e_ksetA2, e_expr, e_knx, e_cvF, e_cvS, e_cvL, e_cvD, e_cfF, e_cfL, e_cdF, e_cdL, e_ckD, e_clL, e_pkF, e_pkL, e_pkA, e_fzF, e_fzL, e_fzA, e_var, e_c, e_op, e_o1, e_o2, e_o3, e_o4, e_tst, e_kt, e_and, e_andT, e_andF, e_or, e_orT, e_orF, e_not, e_knot, e_andV, e_andVT, e_andVF, e_orV, e_orVT, e_orVF, e_notV, e_knotV, e_ifE, e_ifET, e_ifEF, e_neg, e_kneg, e_nil, e_cons, e_a1F, e_a1S, e_a1L, e_a1A, e_a2, e_fa0, e_fa1, e_fa2, e_fa3, e_tup, e_ktup, e_ktup2, e_lst, e_klst, e_klst2, e_pa0, e_pa1, e_pa2, e_pa3, e_cl, e_kcl, e_kcl2, e_dget, e_d1, e_d2, e_d2i, e_d3, e_d4, e_dput, e_p1, e_p2, e_p3, e_p4, e_p5, e_knil, e_kcons, e_k1, e_k2, e_k3, e_disp, e_k4, e_nop, e_somep, e_ksome, e_sl, e_s1, e_s2, e_s3, e_gnm, e_gtp, e_gnil, e_gcons, e_kg, e_asg, e_as1, e_as2, e_as3, e_par, e_pr, e_pr2, e_it, e_i1, e_i2L, e_i2T, e_r1, e_kr1, e_for, e_kfor, e_l0, e_l1, e_l2, e_l3, e_l3c, e_l3b, e_l3r, e_w1, e_wT, e_wF, e_w2, e_fn, e_kfn, e_kfnN, e_kfn2, e_ent, e_out0, e_outN, e_outT, e_outF, e_kout, e_md0, e_md1, e_md2, e_md3, e_call, e_c1, e_c2, e_c3, e_c4, e_en, e_en0, e_es0, e_es, e_e1, e_e0, e_e2, e_e3, e_kp, e_kpL, e_kpD, e_fsS, e_fsF, e_fsA, e_fsL, e_kfr, e_le0, e_le1, e_le2, e_comp, e_lc, e_lc2, e_m0, e_m1, e_m2, e_m3, e_m3F, e_m4, e_m5, e_yes, e_wi0, e_wi1, e_star, e_star2, e_star3, e_isi, e_is1, e_is2, e_orE, e_orE1, e_orE2, e_app, e_ap1, e_ap2, e_ap3, e_ap4, e_ap5, e_ext, e_ex1, e_ex2, e_ex3, e_ex4, e_ex5, e_ch, e_ch1, e_ch2, e_ch3, e_ch4, e_ch5, List.length_cons, List.length_nil, List.map_cons, List.map_nil, Nat.reduceAdd, Nat.reduceSub, List.replicate_succ, List.replicate_zero, List.cons_append, List.nil_append, List.append_nil, List.getElem?_cons_zero, List.getElem?_cons_succ, List.set_cons_zero, List.set_cons_succ, ags, ite_true, if_true, g_add, g_sub, g_lt, g_le, g_gt, g_ge, g_eqI, g_neI, g_abs, g_gcd, g_is, g_isNot, ok0, ok1, ok2, ok3, ok4, ok5, ok6, ok7, ok8, ok9, ok10, ok11, ok12, ok13, ok14, ok15, v1, v2, v3, v4, p2, p3, p4, hl, hc, pw, h1.1, h1.2, decide_true, decide_false, g_mod hm, g_div hm hm2, gl_list, List.length_map]
    · have z1 : ∀ z : Int, 0 ≤ z % 2147483423 ∧ z % 2147483423 < 2147483648 := fun z => by omega
      have z2 : ∀ z : Int, 0 ≤ z % 2147483399 ∧ z % 2147483399 < 2147483648 := fun z => by omega
      have sq : ∀ z y : Int, 0 ≤ z ∧ z < 2147483648 → 0 ≤ y ∧ y < 2147483648 → gMul (.int z) (.int y) = some (.fz (.int (z * y))) := fun z y h h2 => g_mul (by
        have a1 : z.natAbs.log2 < 31 := small_of (by decide) h.1 h.2
        have a2 : y.natAbs.log2 < 31 := small_of (by decide) h2.1 h2.2
        omega)
      refine ⟨((((((cell % 1000000453 + 150011 * (n + 1) + 97) % 2147483423) * ((cell % 1000000453 + 150011 * (n + 1) + 97) % 2147483423) + 3700129 * (n + 1) + 67) % 2147483399) * ((((cell % 1000000453 + 150011 * (n + 1) + 97) % 2147483423) * ((cell % 1000000453 + 150011 * (n + 1) + 97) % 2147483423) + 3700129 * (n + 1) + 67) % 2147483399) + 79 * ((((cell % 1000000453 + 150011 * (n + 1) + 97) % 2147483423) * ((cell % 1000000453 + 150011 * (n + 1) + 97) % 2147483423) + 3700129 * (n + 1) + 67) % 2147483399)) % 2147483353 / 16 % m), a + 1, l, by omega, ?_, Int.emod_nonneg _ (by omega), Int.emod_lt_of_pos _ hm⟩
      by_cases h2 : 1000000000000000000 ≤ cell
      · have h3 : ¬ a < c.length := fun h => h1 ⟨h2, h⟩
        simp only [g__law_draw, m__law_draw, e_seq, e_kseq, e_kseqR, e_kseqB, e_kseqC, e_skip, e_if, e_ifT, e_ifF, e_ret, e_kret, e_kretL, e_kretD, e_kretA, e_kretA2, e_set, e_kset, e_ksetL, e_ksetD, e_ksetS, e_ksetA, e_ksetA2, e_expr, e_knx, e_cvF, e_cvS, e_cvL, e_cvD, e_cfF, e_cfL, e_cdF, e_cdL, e_ckD, e_clL, e_pkF, e_pkL, e_pkA, e_fzF, e_fzL, e_fzA, e_var, e_c, e_op, e_o1, e_o2, e_o3, e_o4, e_tst, e_kt, e_and, e_andT, e_andF, e_or, e_orT, e_orF, e_not, e_knot, e_andV, e_andVT, e_andVF, e_orV, e_orVT, e_orVF, e_notV, e_knotV, e_ifE, e_ifET, e_ifEF, e_neg, e_kneg, e_nil, e_cons, e_a1F, e_a1S, e_a1L, e_a1A, e_a2, e_fa0, e_fa1, e_fa2, e_fa3, e_tup, e_ktup, e_ktup2, e_lst, e_klst, e_klst2, e_pa0, e_pa1, e_pa2, e_pa3, e_cl, e_kcl, e_kcl2, e_dget, e_d1, e_d2, e_d2i, e_d3, e_d4, e_dput, e_p1, e_p2, e_p3, e_p4, e_p5, e_knil, e_kcons, e_k1, e_k2, e_k3, e_disp, e_k4, e_nop, e_somep, e_ksome, e_sl, e_s1, e_s2, e_s3, e_gnm, e_gtp, e_gnil, e_gcons, e_kg, e_asg, e_as1, e_as2, e_as3, e_par, e_pr, e_pr2, e_it, e_i1, e_i2L, e_i2T, e_r1, e_kr1, e_for, e_kfor, e_l0, e_l1, e_l2, e_l3, e_l3c, e_l3b, e_l3r, e_w1, e_wT, e_wF, e_w2, e_fn, e_kfn, e_kfnN, e_kfn2, e_ent, e_out0, e_outN, e_outT, e_outF, e_kout, e_md0, e_md1, e_md2, e_md3, e_call, e_c1, e_c2, e_c3, e_c4, e_en, e_en0, e_es0, e_es, e_e1, e_e0, e_e2, e_e3, e_kp, e_kpL, e_kpD, e_fsS, e_fsF, e_fsA, e_fsL, e_kfr, e_le0, e_le1, e_le2, e_comp, e_lc, e_lc2, e_m0, e_m1, e_m2, e_m3, e_m3F, e_m4, e_m5, e_yes, e_wi0, e_wi1, e_star, e_star2, e_star3, e_isi, e_is1, e_is2, e_orE, e_orE1, e_orE2, e_app, e_ap1, e_ap2, e_ap3, e_ap4, e_ap5, e_ext, e_ex1, e_ex2, e_ex3, e_ex4, e_ex5, e_ch, e_ch1, e_ch2, e_ch3, e_ch4, e_ch5, List.length_cons, List.length_nil, List.map_cons, List.map_nil, Nat.reduceAdd, Nat.reduceSub, List.replicate_succ, List.replicate_zero, List.cons_append, List.nil_append, List.append_nil, List.getElem?_cons_zero, List.getElem?_cons_succ, List.set_cons_zero, List.set_cons_succ, ags, ite_true, if_true, g_add, g_sub, g_lt, g_le, g_gt, g_ge, g_eqI, g_neI, g_abs, g_gcd, g_is, g_isNot, ok0, ok1, ok2, ok3, ok4, ok5, ok6, ok7, ok8, ok9, ok10, ok11, ok12, ok13, ok14, ok15, v1, v2, v3, v4, p2, p3, p4, hl, hc, pw, h2, h3, decide_true, decide_false, g_mod hm, g_div hm hm2, gl_list, List.length_map, g_mod (show (0 : Int) < 1000000453 by decide), g_mod (show (0 : Int) < 2147483423 by decide), g_mod (show (0 : Int) < 2147483399 by decide), g_mod (show (0 : Int) < 2147483353 by decide), g_div (show (0 : Int) < 16 by decide) (by decide), sq 150011 (n + 1) (by omega) (by omega), sq 3700129 (n + 1) (by omega) (by omega), sq _ _ (z1 _) (z1 _), sq _ _ (z2 _) (z2 _), sq 79 _ (by omega) (z2 _)]
      · simp only [g__law_draw, m__law_draw, e_seq, e_kseq, e_kseqR, e_kseqB, e_kseqC, e_skip, e_if, e_ifT, e_ifF, e_ret, e_kret, e_kretL, e_kretD, e_kretA, e_kretA2, e_set, e_kset, e_ksetL, e_ksetD, e_ksetS, e_ksetA, e_ksetA2, e_expr, e_knx, e_cvF, e_cvS, e_cvL, e_cvD, e_cfF, e_cfL, e_cdF, e_cdL, e_ckD, e_clL, e_pkF, e_pkL, e_pkA, e_fzF, e_fzL, e_fzA, e_var, e_c, e_op, e_o1, e_o2, e_o3, e_o4, e_tst, e_kt, e_and, e_andT, e_andF, e_or, e_orT, e_orF, e_not, e_knot, e_andV, e_andVT, e_andVF, e_orV, e_orVT, e_orVF, e_notV, e_knotV, e_ifE, e_ifET, e_ifEF, e_neg, e_kneg, e_nil, e_cons, e_a1F, e_a1S, e_a1L, e_a1A, e_a2, e_fa0, e_fa1, e_fa2, e_fa3, e_tup, e_ktup, e_ktup2, e_lst, e_klst, e_klst2, e_pa0, e_pa1, e_pa2, e_pa3, e_cl, e_kcl, e_kcl2, e_dget, e_d1, e_d2, e_d2i, e_d3, e_d4, e_dput, e_p1, e_p2, e_p3, e_p4, e_p5, e_knil, e_kcons, e_k1, e_k2, e_k3, e_disp, e_k4, e_nop, e_somep, e_ksome, e_sl, e_s1, e_s2, e_s3, e_gnm, e_gtp, e_gnil, e_gcons, e_kg, e_asg, e_as1, e_as2, e_as3, e_par, e_pr, e_pr2, e_it, e_i1, e_i2L, e_i2T, e_r1, e_kr1, e_for, e_kfor, e_l0, e_l1, e_l2, e_l3, e_l3c, e_l3b, e_l3r, e_w1, e_wT, e_wF, e_w2, e_fn, e_kfn, e_kfnN, e_kfn2, e_ent, e_out0, e_outN, e_outT, e_outF, e_kout, e_md0, e_md1, e_md2, e_md3, e_call, e_c1, e_c2, e_c3, e_c4, e_en, e_en0, e_es0, e_es, e_e1, e_e0, e_e2, e_e3, e_kp, e_kpL, e_kpD, e_fsS, e_fsF, e_fsA, e_fsL, e_kfr, e_le0, e_le1, e_le2, e_comp, e_lc, e_lc2, e_m0, e_m1, e_m2, e_m3, e_m3F, e_m4, e_m5, e_yes, e_wi0, e_wi1, e_star, e_star2, e_star3, e_isi, e_is1, e_is2, e_orE, e_orE1, e_orE2, e_app, e_ap1, e_ap2, e_ap3, e_ap4, e_ap5, e_ext, e_ex1, e_ex2, e_ex3, e_ex4, e_ex5, e_ch, e_ch1, e_ch2, e_ch3, e_ch4, e_ch5, List.length_cons, List.length_nil, List.map_cons, List.map_nil, Nat.reduceAdd, Nat.reduceSub, List.replicate_succ, List.replicate_zero, List.cons_append, List.nil_append, List.append_nil, List.getElem?_cons_zero, List.getElem?_cons_succ, List.set_cons_zero, List.set_cons_succ, ags, ite_true, if_true, g_add, g_sub, g_lt, g_le, g_gt, g_ge, g_eqI, g_neI, g_abs, g_gcd, g_is, g_isNot, ok0, ok1, ok2, ok3, ok4, ok5, ok6, ok7, ok8, ok9, ok10, ok11, ok12, ok13, ok14, ok15, v1, v2, v3, v4, p2, p3, p4, hl, hc, pw, h2,  decide_true, decide_false, g_mod hm, g_div hm hm2, gl_list, List.length_map, g_mod (show (0 : Int) < 1000000453 by decide), g_mod (show (0 : Int) < 2147483423 by decide), g_mod (show (0 : Int) < 2147483399 by decide), g_mod (show (0 : Int) < 2147483353 by decide), g_div (show (0 : Int) < 16 by decide) (by decide), sq 150011 (n + 1) (by omega) (by omega), sq 3700129 (n + 1) (by omega) (by omega), sq _ _ (z1 _) (z1 _), sq _ _ (z2 _) (z2 _), sq 79 _ (by omega) (z2 _)]
/-! ### the script becomes a feed -/
theorem feed_ok (ns : List Int) (h : ns.length ≤ 63) : g__law_feed_1 [.sc ns] = some (.od (fdL ns 0 0 0), [.sc ns]) := by
  have hc : cutS1 (.sc ns) [some (.sc ns)] none (some 63) = some (.ol (ns.map .int)) := by
    have e : cutD ns none (some 63) = ns := cut_whole ⟨rfl, by
      show (if (63 : Int) < 0 then ((63 : Int) + (ns.length : Int)).toNat else min (63 : Int).toNat ns.length) = ns.length
      rw [if_neg (by decide)]
      show min 63 ns.length = ns.length
      omega⟩
    show some (S.ol ((cutD ns none (some 63)).map .int)) = _
    rw [e]
  have gl : gList [.list (ns.map .int)] = some (.ol (ns.map .int)) := rfl
  have mg : mergeD [(.inr "cells", .list (ns.map .int)), (.inr "at", .int 0), (.inr "left", .int 0), (.inr "count", .int 0)] = fdL ns 0 0 0 := by kernel_rfl
  simp only [g__law_feed_1, g__law_feed, m__law_feed, e_seq, e_kseq, e_kseqR, e_kseqB, e_kseqC, e_skip, e_if, e_ifT, e_ifF, e_ret, e_kret, e_kretL, e_kretD, e_kretA, e_kretA2, e_set, e_kset, e_ksetL, e_ksetD, e_ksetS, e_ksetA, e_ksetA2, e_expr, e_knx, e_cvF, e_cvS, e_cvL, e_cvD, e_cfF, e_cfL, e_cdF, e_cdL, e_ckD, e_clL, e_pkF, e_pkL, e_pkA, e_fzF, e_fzL, e_fzA, e_var, e_c, e_op, e_o1, e_o2, e_o3, e_o4, e_tst, e_kt, e_and, e_andT, e_andF, e_or, e_orT, e_orF, e_not, e_knot, e_andV, e_andVT, e_andVF, e_orV, e_orVT, e_orVF, e_notV, e_knotV, e_ifE, e_ifET, e_ifEF, e_neg, e_kneg, e_nil, e_cons, e_a1F, e_a1S, e_a1L, e_a1A, e_a2, e_fa0, e_fa1, e_fa2, e_fa3, e_tup, e_ktup, e_ktup2, e_lst, e_klst, e_klst2, e_pa0, e_pa1, e_pa2, e_pa3, e_cl, e_kcl, e_kcl2, e_dget, e_d1, e_d2, e_d2i, e_d3, e_d4, e_dput, e_p1, e_p2, e_p3, e_p4, e_p5, e_knil, e_kcons, e_k1, e_k2, e_k3, e_disp, e_k4, e_nop, e_somep, e_ksome, e_sl, e_s1, e_s2, e_s3, e_gnm, e_gtp, e_gnil, e_gcons, e_kg, e_asg, e_as1, e_as2, e_as3, e_par, e_pr, e_pr2, e_it, e_i1, e_i2L, e_i2T, e_r1, e_kr1, e_for, e_kfor, e_l0, e_l1, e_l2, e_l3, e_l3c, e_l3b, e_l3r, e_w1, e_wT, e_wF, e_w2, e_fn, e_kfn, e_kfnN, e_kfn2, e_ent, e_out0, e_outN, e_outT, e_outF, e_kout, e_md0, e_md1, e_md2, e_md3, e_call, e_c1, e_c2, e_c3, e_c4, e_en, e_en0, e_es0, e_es, e_e1, e_e0, e_e2, e_e3, e_kp, e_kpL, e_kpD, e_fsS, e_fsF, e_fsA, e_fsL, e_kfr, e_le0, e_le1, e_le2, e_comp, e_lc, e_lc2, e_m0, e_m1, e_m2, e_m3, e_m3F, e_m4, e_m5, e_yes, e_wi0, e_wi1, e_star, e_star2, e_star3, e_isi, e_is1, e_is2, e_orE, e_orE1, e_orE2, e_app, e_ap1, e_ap2, e_ap3, e_ap4, e_ap5, e_ext, e_ex1, e_ex2, e_ex3, e_ex4, e_ex5, e_ch, e_ch1, e_ch2, e_ch3, e_ch4, e_ch5, List.length_cons, List.length_nil, List.map_cons, List.map_nil, Nat.reduceAdd, Nat.reduceSub, List.replicate_succ, List.replicate_zero, List.cons_append, List.nil_append, List.append_nil, List.getElem?_cons_zero, List.getElem?_cons_succ, List.set_cons_zero, List.set_cons_succ, ags, ite_true, if_true, g_add, g_sub, g_lt, g_le, g_gt, g_ge, g_eqI, g_neI, g_abs, g_gcd, g_is, g_isNot, ok0, ok1, ok2, ok3, ok4, ok5, ok6, ok7, ok8, ok9, ok10, ok11, ok12, ok13, ok14, ok15, hc, gl, mg]
end LW

namespace LW
open L2 PySem PySem.Spec PyProof.Rows DL RT
set_option maxHeartbeats 0
/-! ### the program's checks of clauses -/
theorem k_it {i : Int} : kitB (tyD (.int i)) "int" = some true := by kernel_rfl
theorem k_ib {i : Int} : kitB (tyD (.int i)) "bool" = some false := by kernel_rfl
theorem k_tt {ds : List PyData} : kitB (tyD (.tuple ds)) "tuple" = some true := by kernel_rfl
theorem isint_ok (i : Int) : g_is_integer_1 [.fz (.int i)] = some (.fz (.bool true), [.fz (.int i)]) := by
  simp only [g_is_integer_1, g_is_integer, m_is_integer, e_seq, e_kseq, e_kseqR, e_kseqB, e_kseqC, e_skip, e_if, e_ifT, e_ifF, e_ret, e_kret, e_kretL, e_kretD, e_kretA, e_kretA2, e_set, e_kset, e_ksetL, e_ksetD, e_ksetS, e_ksetA, e_ksetA2, e_expr, e_knx, e_cvF, e_cvS, e_cvL, e_cvD, e_cfF, e_cfL, e_cdF, e_cdL, e_ckD, e_clL, e_pkF, e_pkL, e_pkA, e_fzF, e_fzL, e_fzA, e_var, e_c, e_op, e_o1, e_o2, e_o3, e_o4, e_tst, e_kt, e_and, e_andT, e_andF, e_or, e_orT, e_orF, e_not, e_knot, e_andV, e_andVT, e_andVF, e_orV, e_orVT, e_orVF, e_notV, e_knotV, e_ifE, e_ifET, e_ifEF, e_neg, e_kneg, e_nil, e_cons, e_a1F, e_a1S, e_a1L, e_a1A, e_a2, e_fa0, e_fa1, e_fa2, e_fa3, e_tup, e_ktup, e_ktup2, e_lst, e_klst, e_klst2, e_pa0, e_pa1, e_pa2, e_pa3, e_cl, e_kcl, e_kcl2, e_dget, e_d1, e_d2, e_d2i, e_d3, e_d4, e_dput, e_p1, e_p2, e_p3, e_p4, e_p5, e_knil, e_kcons, e_k1, e_k2, e_k3, e_disp, e_k4, e_nop, e_somep, e_ksome, e_sl, e_s1, e_s2, e_s3, e_gnm, e_gtp, e_gnil, e_gcons, e_kg, e_asg, e_as1, e_as2, e_as3, e_par, e_pr, e_pr2, e_it, e_i1, e_i2L, e_i2T, e_r1, e_kr1, e_for, e_kfor, e_l0, e_l1, e_l2, e_l3, e_l3c, e_l3b, e_l3r, e_w1, e_wT, e_wF, e_w2, e_fn, e_kfn, e_kfnN, e_kfn2, e_ent, e_out0, e_outN, e_outT, e_outF, e_kout, e_md0, e_md1, e_md2, e_md3, e_call, e_c1, e_c2, e_c3, e_c4, e_en, e_en0, e_es0, e_es, e_e1, e_e0, e_e2, e_e3, e_kp, e_kpL, e_kpD, e_fsS, e_fsF, e_fsA, e_fsL, e_kfr, e_le0, e_le1, e_le2, e_comp, e_lc, e_lc2, e_m0, e_m1, e_m2, e_m3, e_m3F, e_m4, e_m5, e_yes, e_wi0, e_wi1, e_star, e_star2, e_star3, e_isi, e_is1, e_is2, e_orE, e_orE1, e_orE2, e_app, e_ap1, e_ap2, e_ap3, e_ap4, e_ap5, e_ext, e_ex1, e_ex2, e_ex3, e_ex4, e_ex5, e_ch, e_ch1, e_ch2, e_ch3, e_ch4, e_ch5, List.length_cons, List.length_nil, List.map_cons, List.map_nil, Nat.reduceAdd, Nat.reduceSub, List.replicate_succ, List.replicate_zero, List.cons_append, List.nil_append, List.append_nil, List.getElem?_cons_zero, List.getElem?_cons_succ, List.set_cons_zero, List.set_cons_succ, ags, ite_true, if_true, g_add, g_sub, g_lt, g_le, g_gt, g_ge, g_eqI, g_neI, g_abs, g_gcd, g_is, g_isNot, ok0, ok1, ok2, ok3, ok4, ok5, ok6, ok7, ok8, ok9, ok10, ok11, ok12, ok13, ok14, ok15, k_it, k_ib, Bool.not_false]
theorem row_ok (ds : List PyData) (n : Int) : g_is_row_2 [.fz (.tuple ds), .fz (.int n)] = some (.fz (.bool (decide ((ds.length : Int) = n))), [.fz (.tuple ds), .fz (.int n)]) := by
  simp only [g_is_row_2, g_is_row, m_is_row, e_seq, e_kseq, e_kseqR, e_kseqB, e_kseqC, e_skip, e_if, e_ifT, e_ifF, e_ret, e_kret, e_kretL, e_kretD, e_kretA, e_kretA2, e_set, e_kset, e_ksetL, e_ksetD, e_ksetS, e_ksetA, e_ksetA2, e_expr, e_knx, e_cvF, e_cvS, e_cvL, e_cvD, e_cfF, e_cfL, e_cdF, e_cdL, e_ckD, e_clL, e_pkF, e_pkL, e_pkA, e_fzF, e_fzL, e_fzA, e_var, e_c, e_op, e_o1, e_o2, e_o3, e_o4, e_tst, e_kt, e_and, e_andT, e_andF, e_or, e_orT, e_orF, e_not, e_knot, e_andV, e_andVT, e_andVF, e_orV, e_orVT, e_orVF, e_notV, e_knotV, e_ifE, e_ifET, e_ifEF, e_neg, e_kneg, e_nil, e_cons, e_a1F, e_a1S, e_a1L, e_a1A, e_a2, e_fa0, e_fa1, e_fa2, e_fa3, e_tup, e_ktup, e_ktup2, e_lst, e_klst, e_klst2, e_pa0, e_pa1, e_pa2, e_pa3, e_cl, e_kcl, e_kcl2, e_dget, e_d1, e_d2, e_d2i, e_d3, e_d4, e_dput, e_p1, e_p2, e_p3, e_p4, e_p5, e_knil, e_kcons, e_k1, e_k2, e_k3, e_disp, e_k4, e_nop, e_somep, e_ksome, e_sl, e_s1, e_s2, e_s3, e_gnm, e_gtp, e_gnil, e_gcons, e_kg, e_asg, e_as1, e_as2, e_as3, e_par, e_pr, e_pr2, e_it, e_i1, e_i2L, e_i2T, e_r1, e_kr1, e_for, e_kfor, e_l0, e_l1, e_l2, e_l3, e_l3c, e_l3b, e_l3r, e_w1, e_wT, e_wF, e_w2, e_fn, e_kfn, e_kfnN, e_kfn2, e_ent, e_out0, e_outN, e_outT, e_outF, e_kout, e_md0, e_md1, e_md2, e_md3, e_call, e_c1, e_c2, e_c3, e_c4, e_en, e_en0, e_es0, e_es, e_e1, e_e0, e_e2, e_e3, e_kp, e_kpL, e_kpD, e_fsS, e_fsF, e_fsA, e_fsL, e_kfr, e_le0, e_le1, e_le2, e_comp, e_lc, e_lc2, e_m0, e_m1, e_m2, e_m3, e_m3F, e_m4, e_m5, e_yes, e_wi0, e_wi1, e_star, e_star2, e_star3, e_isi, e_is1, e_is2, e_orE, e_orE1, e_orE2, e_app, e_ap1, e_ap2, e_ap3, e_ap4, e_ap5, e_ext, e_ex1, e_ex2, e_ex3, e_ex4, e_ex5, e_ch, e_ch1, e_ch2, e_ch3, e_ch4, e_ch5, List.length_cons, List.length_nil, List.map_cons, List.map_nil, Nat.reduceAdd, Nat.reduceSub, List.replicate_succ, List.replicate_zero, List.cons_append, List.nil_append, List.append_nil, List.getElem?_cons_zero, List.getElem?_cons_succ, List.set_cons_zero, List.set_cons_succ, ags, ite_true, if_true, g_add, g_sub, g_lt, g_le, g_gt, g_ge, g_eqI, g_neI, g_abs, g_gcd, g_is, g_isNot, ok0, ok1, ok2, ok3, ok4, ok5, ok6, ok7, ok8, ok9, ok10, ok11, ok12, ok13, ok14, ok15, k_tt, gl_tup]
theorem isfrac_ok (q : Rat) : g_is_fraction_1 [.fz (fD q)] = some (.fz (.bool true), [.fz (fD q)]) := by
  have h1 : g_is_row_2 [.fz (fD q), .fz (.int 2)] = some (.fz (.bool true), [.fz (fD q), .fz (.int 2)]) := row_ok _ _
  have h2 := isint_ok q.num
  have h3 := isint_ok (q.den : Int)
  have h4 : decide ((1 : Int) ≤ (q.den : Int)) = true := decide_eq_true (by have := den_pos q; omega)
  have h5 : gGcd [.int q.num, .int (q.den : Int)] = some (.fz (.int 1)) := by
    have : gGcd [.int q.num, .int (q.den : Int)] = some (.fz (.int ((Nat.gcd q.num.natAbs q.den : Nat) : Int))) := rfl
    rw [this, show Nat.gcd q.num.natAbs q.den = 1 from q.reduced]
    rfl
  simp only [g_is_fraction_1, g_is_fraction, m_is_fraction, e_seq, e_kseq, e_kseqR, e_kseqB, e_kseqC, e_skip, e_if, e_ifT, e_ifF, e_ret, e_kret, e_kretL, e_kretD, e_kretA, e_kretA2, e_set, e_kset, e_ksetL, e_ksetD, e_ksetS, e_ksetA, e_ksetA2, e_expr, e_knx, e_cvF, e_cvS, e_cvL, e_cvD, e_cfF, e_cfL, e_cdF, e_cdL, e_ckD, e_clL, e_pkF, e_pkL, e_pkA, e_fzF, e_fzL, e_fzA, e_var, e_c, e_op, e_o1, e_o2, e_o3, e_o4, e_tst, e_kt, e_and, e_andT, e_andF, e_or, e_orT, e_orF, e_not, e_knot, e_andV, e_andVT, e_andVF, e_orV, e_orVT, e_orVF, e_notV, e_knotV, e_ifE, e_ifET, e_ifEF, e_neg, e_kneg, e_nil, e_cons, e_a1F, e_a1S, e_a1L, e_a1A, e_a2, e_fa0, e_fa1, e_fa2, e_fa3, e_tup, e_ktup, e_ktup2, e_lst, e_klst, e_klst2, e_pa0, e_pa1, e_pa2, e_pa3, e_cl, e_kcl, e_kcl2, e_dget, e_d1, e_d2, e_d2i, e_d3, e_d4, e_dput, e_p1, e_p2, e_p3, e_p4, e_p5, e_knil, e_kcons, e_k1, e_k2, e_k3, e_disp, e_k4, e_nop, e_somep, e_ksome, e_sl, e_s1, e_s2, e_s3, e_gnm, e_gtp, e_gnil, e_gcons, e_kg, e_asg, e_as1, e_as2, e_as3, e_par, e_pr, e_pr2, e_it, e_i1, e_i2L, e_i2T, e_r1, e_kr1, e_for, e_kfor, e_l0, e_l1, e_l2, e_l3, e_l3c, e_l3b, e_l3r, e_w1, e_wT, e_wF, e_w2, e_fn, e_kfn, e_kfnN, e_kfn2, e_ent, e_out0, e_outN, e_outT, e_outF, e_kout, e_md0, e_md1, e_md2, e_md3, e_call, e_c1, e_c2, e_c3, e_c4, e_en, e_en0, e_es0, e_es, e_e1, e_e0, e_e2, e_e3, e_kp, e_kpL, e_kpD, e_fsS, e_fsF, e_fsA, e_fsL, e_kfr, e_le0, e_le1, e_le2, e_comp, e_lc, e_lc2, e_m0, e_m1, e_m2, e_m3, e_m3F, e_m4, e_m5, e_yes, e_wi0, e_wi1, e_star, e_star2, e_star3, e_isi, e_is1, e_is2, e_orE, e_orE1, e_orE2, e_app, e_ap1, e_ap2, e_ap3, e_ap4, e_ap5, e_ext, e_ex1, e_ex2, e_ex3, e_ex4, e_ex5, e_ch, e_ch1, e_ch2, e_ch3, e_ch4, e_ch5, List.length_cons, List.length_nil, List.map_cons, List.map_nil, Nat.reduceAdd, Nat.reduceSub, List.replicate_succ, List.replicate_zero, List.cons_append, List.nil_append, List.append_nil, List.getElem?_cons_zero, List.getElem?_cons_succ, List.set_cons_zero, List.set_cons_succ, ags, ite_true, if_true, g_add, g_sub, g_lt, g_le, g_gt, g_ge, g_eqI, g_neI, g_abs, g_gcd, g_is, g_isNot, ok0, ok1, ok2, ok3, ok4, ok5, ok6, ok7, ok8, ok9, ok10, ok11, ok12, ok13, ok14, ok15, -g_gcd, h1, f_0, f_1, h2, h3, h4, h5, decide_true, Bool.not_true]
end LW

namespace LW
open L2 PySem PySem.Spec PyProof.Rows DL RT
set_option maxHeartbeats 0
/-! ### texts -/
def natT (n : Nat) : Str := Str.ofString (toString ((n : Nat) : Int))
abbrev minus : Str := "-"
abbrev slash : Str := "/"
def itx (i : Int) : Str := if i < 0 then minus ++ natT i.natAbs else natT i.natAbs
def ftx (q : Rat) : Str := if q.den = 1 then itx q.num else itx q.num ++ slash ++ natT q.den
theorem tl_natT (n : Nat) : TL.tl (natT n) = TL.numL n := TL.tl_num n
theorem tl_minus : TL.tl minus = [45] := by decide +kernel
theorem tl_slash : TL.tl slash = [47] := by decide +kernel
theorem tl_itx (i : Int) : TL.tl (itx i) = (if i < 0 then [45] else []) ++ TL.numL i.natAbs := by
  unfold itx
  split
  · rw [TL.tl_append, tl_minus, tl_natT]
  · rw [tl_natT]; rfl
theorem nat_len {n : Nat} (h : n < 10 ^ 60) : (natT n).length ≤ 60 ∧ 1 ≤ (natT n).length := by
  rw [TL.len_tl, tl_natT]
  refine ⟨TL.numL_len (by decide) h, ?_⟩
  have := TL.numL_ne n
  cases e : TL.numL n with
  | nil => exact absurd e this
  | cons a b => simp
theorem itx_len {i : Int} (h : i.natAbs < 10 ^ 60) : (itx i).length ≤ 61 := by
  rw [TL.len_tl, tl_itx]
  have h1 := (nat_len h).1
  rw [TL.len_tl, tl_natT] at h1
  rw [List.length_append]
  split
  · simp only [List.length_cons, List.length_nil]; omega
  · simp only [List.length_nil]; omega
theorem empty_app (x : Str) : Str.empty ++ x = x := TL.ext_tl (by rw [TL.tl_append]; rfl)
theorem app_join (x : Str) : x ++ Txt.join ("" : Str) [] = x := TL.ext_tl (by
  rw [TL.tl_append, show TL.tl (Txt.join ("" : Str) []) = [] by decide +kernel, List.append_nil])
theorem sizeNat {n : Nat} (h : n < 10 ^ 60) : (n : Int).natAbs.log2 < 1920 := by
  rw [Int.natAbs_natCast]
  exact log2_lt' (by decide) (Nat.lt_trans h (by decide))
theorem str_nat {n : Nat} (h : n < 10 ^ 60) : gStr [.int (n : Int)] = some (.fz (.str (natT n))) := by
  have e : gStr [.int (n : Int)] = if decide ((n : Int).natAbs.log2 < 1920) then some (.fz (.str (natT n))) else none := rfl
  rw [e, decide_eq_true (sizeNat h)]; rfl
theorem wh_no {c : TF} {m : SF} {k : Nat} {ρ : PSt} (h : c ρ = some (false, ρ)) : whF c m (k + 1) ρ = some (.nx ρ) := by
  rw [e_w1, h]; rfl
theorem add_str {a b : Str} (h : a.length + b.length ≤ 100000) : gAdd (.str a) (.str b) = some (.fz (.str (a ++ b))) := by
  have e : gAdd (.str a) (.str b) = (match (if okN (a.length + b.length) then some (S.fz (.str (a ++ b))) else none) with
    | some s => some s
    | none => gBI (· + ·) (.str a) (.str b)) := rfl
  rw [e, show okN (a.length + b.length) = true from decide_eq_true h]
  rfl
abbrev CH : Int := 1000000000000000000000000000000000000000000000000000000000000
abbrev wI : SF := whF (tstF (opF gGe (varF 0) (cF (.int 1000000000000000000000000000000000000000000000000000000000000)))) ((fun _ => none)) 2000
theorem wI_ok {n : Nat} (h : n < 10 ^ 60) {x : Option S} : wI [some (.fz (.int (n : Int))), x] = some (.nx [some (.fz (.int (n : Int))), x]) := by
  have c : decide (CH ≤ (n : Int)) = false := decide_eq_false (by
    have : ((10 ^ 60 : Nat) : Int) = CH := by decide +kernel
    omega)
  refine wh_no (k := 1999) ?_
  show tstF (opF gGe (varF 0) (cF (.int CH))) _ = _
  generalize CH = K at *
  simp only [e_seq, e_kseq, e_kseqR, e_kseqB, e_kseqC, e_skip, e_if, e_ifT, e_ifF, e_ret, e_kret, e_kretL, e_kretD, e_kretA, e_kretA2, e_set, e_kset, e_ksetL, e_ksetD, e_ksetS, e_ksetA, e_ksetA2, e_expr, e_knx, e_cvF, e_cvS, e_cvL, e_cvD, e_cfF, e_cfL, e_cdF, e_cdL, e_ckD, e_clL, e_pkF, e_pkL, e_pkA, e_fzF, e_fzL, e_fzA, e_var, e_c, e_op, e_o1, e_o2, e_o3, e_o4, e_tst, e_kt, e_and, e_andT, e_andF, e_or, e_orT, e_orF, e_not, e_knot, e_andV, e_andVT, e_andVF, e_orV, e_orVT, e_orVF, e_notV, e_knotV, e_ifE, e_ifET, e_ifEF, e_neg, e_kneg, e_nil, e_cons, e_a1F, e_a1S, e_a1L, e_a1A, e_a2, e_fa0, e_fa1, e_fa2, e_fa3, e_tup, e_ktup, e_ktup2, e_lst, e_klst, e_klst2, e_pa0, e_pa1, e_pa2, e_pa3, e_cl, e_kcl, e_kcl2, e_dget, e_d1, e_d2, e_d2i, e_d3, e_d4, e_dput, e_p1, e_p2, e_p3, e_p4, e_p5, e_knil, e_kcons, e_k1, e_k2, e_k3, e_disp, e_k4, e_nop, e_somep, e_ksome, e_sl, e_s1, e_s2, e_s3, e_gnm, e_gtp, e_gnil, e_gcons, e_kg, e_asg, e_as1, e_as2, e_as3, e_par, e_pr, e_pr2, e_it, e_i1, e_i2L, e_i2T, e_r1, e_kr1, e_for, e_kfor, e_l0, e_l1, e_l2, e_l3, e_l3c, e_l3b, e_l3r, e_w1, e_wT, e_wF, e_w2, e_fn, e_kfn, e_kfnN, e_kfn2, e_ent, e_out0, e_outN, e_outT, e_outF, e_kout, e_md0, e_md1, e_md2, e_md3, e_call, e_c1, e_c2, e_c3, e_c4, e_en, e_en0, e_es0, e_es, e_e1, e_e0, e_e2, e_e3, e_kp, e_kpL, e_kpD, e_fsS, e_fsF, e_fsA, e_fsL, e_kfr, e_le0, e_le1, e_le2, e_comp, e_lc, e_lc2, e_m0, e_m1, e_m2, e_m3, e_m3F, e_m4, e_m5, e_yes, e_wi0, e_wi1, e_star, e_star2, e_star3, e_isi, e_is1, e_is2, e_orE, e_orE1, e_orE2, e_app, e_ap1, e_ap2, e_ap3, e_ap4, e_ap5, e_ext, e_ex1, e_ex2, e_ex3, e_ex4, e_ex5, e_ch, e_ch1, e_ch2, e_ch3, e_ch4, e_ch5, List.length_cons, List.length_nil, List.map_cons, List.map_nil, Nat.reduceAdd, Nat.reduceSub, List.replicate_succ, List.replicate_zero, List.cons_append, List.nil_append, List.append_nil, List.getElem?_cons_zero, List.getElem?_cons_succ, List.set_cons_zero, List.set_cons_succ, ags, ite_true, if_true, g_add, g_sub, g_lt, g_le, g_gt, g_ge, g_eqI, g_neI, g_abs, g_gcd, g_is, g_isNot, ok0, ok1, ok2, ok3, ok4, ok5, ok6, ok7, ok8, ok9, ok10, ok11, ok12, ok13, ok14, ok15, c]
abbrev eR : EF := opF gAdd (clF gStr (consF (varF 0) (nilF))) (jrvF (cF (.str "")) (varF 1))
theorem join_e {ρ : PSt} {x : Option S} : jrvF (cF (.str "")) (varF 1) [x, some (.ol [])] = some (.fz (.str (Txt.join ("" : Str) [])), [x, some (.ol [])]) := rfl
theorem eR_ok {n : Nat} (h : n < 10 ^ 60) : eR [some (.fz (.int (n : Int))), some (.ol [])] = some (.fz (.str (natT n)), [some (.fz (.int (n : Int))), some (.ol [])]) := by
  have s := str_nat h
  have l := (nat_len h).1
  have a := add_str (a := natT n) (b := Txt.join ("" : Str) []) (by
    have : (Txt.join ("" : Str) []).length = 0 := by decide +kernel
    omega)
  rw [app_join] at a
  have j := join_e (ρ := []) (x := some (.fz (.int (n : Int))))
  generalize Txt.join ("" : Str) [] = z at *
  generalize (n : Int) = i at *
  simp only [e_seq, e_kseq, e_kseqR, e_kseqB, e_kseqC, e_skip, e_if, e_ifT, e_ifF, e_ret, e_kret, e_kretL, e_kretD, e_kretA, e_kretA2, e_set, e_kset, e_ksetL, e_ksetD, e_ksetS, e_ksetA, e_ksetA2, e_expr, e_knx, e_cvF, e_cvS, e_cvL, e_cvD, e_cfF, e_cfL, e_cdF, e_cdL, e_ckD, e_clL, e_pkF, e_pkL, e_pkA, e_fzF, e_fzL, e_fzA, e_var, e_c, e_op, e_o1, e_o2, e_o3, e_o4, e_tst, e_kt, e_and, e_andT, e_andF, e_or, e_orT, e_orF, e_not, e_knot, e_andV, e_andVT, e_andVF, e_orV, e_orVT, e_orVF, e_notV, e_knotV, e_ifE, e_ifET, e_ifEF, e_neg, e_kneg, e_nil, e_cons, e_a1F, e_a1S, e_a1L, e_a1A, e_a2, e_fa0, e_fa1, e_fa2, e_fa3, e_tup, e_ktup, e_ktup2, e_lst, e_klst, e_klst2, e_pa0, e_pa1, e_pa2, e_pa3, e_cl, e_kcl, e_kcl2, e_dget, e_d1, e_d2, e_d2i, e_d3, e_d4, e_dput, e_p1, e_p2, e_p3, e_p4, e_p5, e_knil, e_kcons, e_k1, e_k2, e_k3, e_disp, e_k4, e_nop, e_somep, e_ksome, e_sl, e_s1, e_s2, e_s3, e_gnm, e_gtp, e_gnil, e_gcons, e_kg, e_asg, e_as1, e_as2, e_as3, e_par, e_pr, e_pr2, e_it, e_i1, e_i2L, e_i2T, e_r1, e_kr1, e_for, e_kfor, e_l0, e_l1, e_l2, e_l3, e_l3c, e_l3b, e_l3r, e_w1, e_wT, e_wF, e_w2, e_fn, e_kfn, e_kfnN, e_kfn2, e_ent, e_out0, e_outN, e_outT, e_outF, e_kout, e_md0, e_md1, e_md2, e_md3, e_call, e_c1, e_c2, e_c3, e_c4, e_en, e_en0, e_es0, e_es, e_e1, e_e0, e_e2, e_e3, e_kp, e_kpL, e_kpD, e_fsS, e_fsF, e_fsA, e_fsL, e_kfr, e_le0, e_le1, e_le2, e_comp, e_lc, e_lc2, e_m0, e_m1, e_m2, e_m3, e_m3F, e_m4, e_m5, e_yes, e_wi0, e_wi1, e_star, e_star2, e_star3, e_isi, e_is1, e_is2, e_orE, e_orE1, e_orE2, e_app, e_ap1, e_ap2, e_ap3, e_ap4, e_ap5, e_ext, e_ex1, e_ex2, e_ex3, e_ex4, e_ex5, e_ch, e_ch1, e_ch2, e_ch3, e_ch4, e_ch5, List.length_cons, List.length_nil, List.map_cons, List.map_nil, Nat.reduceAdd, Nat.reduceSub, List.replicate_succ, List.replicate_zero, List.cons_append, List.nil_append, List.append_nil, List.getElem?_cons_zero, List.getElem?_cons_succ, List.set_cons_zero, List.set_cons_succ, ags, ite_true, if_true, g_add, g_sub, g_lt, g_le, g_gt, g_ge, g_eqI, g_neI, g_abs, g_gcd, g_is, g_isNot, ok0, ok1, ok2, ok3, ok4, ok5, ok6, ok7, ok8, ok9, ok10, ok11, ok12, ok13, ok14, ok15, s, j, a]
theorem it_pos (r : FF) {n : Nat} (h : n < 10 ^ 60) : fnF 1 2 (mdL none) (m_integer_text r) [.fz (.int (n : Int))] = some (.fz (.str (natT n)), [.fz (.int (n : Int))]) := by
  have c : decide ((n : Int) < 0) = false := decide_eq_false (by omega)
  have w := wI_ok h (x := some (.ol []))
  have e := eR_ok h
  unfold m_integer_text
  generalize (n : Int) = i at *
  have s1 : ifSF (tstF (opF gLt (varF 0) (cF (.int 0)))) (retF (fstF (jCons (cF (.str "-")) (jCons (fmtF (callF none r (consF (negF (varF 0)) (nilF)) (nilF))) (jNil))))) (skipF) [some (.fz (.int i)), none] = some (.nx [some (.fz (.int i)), none]) := by
    simp only [e_seq, e_kseq, e_kseqR, e_kseqB, e_kseqC, e_skip, e_if, e_ifT, e_ifF, e_ret, e_kret, e_kretL, e_kretD, e_kretA, e_kretA2, e_set, e_kset, e_ksetL, e_ksetD, e_ksetS, e_ksetA, e_ksetA2, e_expr, e_knx, e_cvF, e_cvS, e_cvL, e_cvD, e_cfF, e_cfL, e_cdF, e_cdL, e_ckD, e_clL, e_pkF, e_pkL, e_pkA, e_fzF, e_fzL, e_fzA, e_var, e_c, e_op, e_o1, e_o2, e_o3, e_o4, e_tst, e_kt, e_and, e_andT, e_andF, e_or, e_orT, e_orF, e_not, e_knot, e_andV, e_andVT, e_andVF, e_orV, e_orVT, e_orVF, e_notV, e_knotV, e_ifE, e_ifET, e_ifEF, e_neg, e_kneg, e_nil, e_cons, e_a1F, e_a1S, e_a1L, e_a1A, e_a2, e_fa0, e_fa1, e_fa2, e_fa3, e_tup, e_ktup, e_ktup2, e_lst, e_klst, e_klst2, e_pa0, e_pa1, e_pa2, e_pa3, e_cl, e_kcl, e_kcl2, e_dget, e_d1, e_d2, e_d2i, e_d3, e_d4, e_dput, e_p1, e_p2, e_p3, e_p4, e_p5, e_knil, e_kcons, e_k1, e_k2, e_k3, e_disp, e_k4, e_nop, e_somep, e_ksome, e_sl, e_s1, e_s2, e_s3, e_gnm, e_gtp, e_gnil, e_gcons, e_kg, e_asg, e_as1, e_as2, e_as3, e_par, e_pr, e_pr2, e_it, e_i1, e_i2L, e_i2T, e_r1, e_kr1, e_for, e_kfor, e_l0, e_l1, e_l2, e_l3, e_l3c, e_l3b, e_l3r, e_w1, e_wT, e_wF, e_w2, e_fn, e_kfn, e_kfnN, e_kfn2, e_ent, e_out0, e_outN, e_outT, e_outF, e_kout, e_md0, e_md1, e_md2, e_md3, e_call, e_c1, e_c2, e_c3, e_c4, e_en, e_en0, e_es0, e_es, e_e1, e_e0, e_e2, e_e3, e_kp, e_kpL, e_kpD, e_fsS, e_fsF, e_fsA, e_fsL, e_kfr, e_le0, e_le1, e_le2, e_comp, e_lc, e_lc2, e_m0, e_m1, e_m2, e_m3, e_m3F, e_m4, e_m5, e_yes, e_wi0, e_wi1, e_star, e_star2, e_star3, e_isi, e_is1, e_is2, e_orE, e_orE1, e_orE2, e_app, e_ap1, e_ap2, e_ap3, e_ap4, e_ap5, e_ext, e_ex1, e_ex2, e_ex3, e_ex4, e_ex5, e_ch, e_ch1, e_ch2, e_ch3, e_ch4, e_ch5, List.length_cons, List.length_nil, List.map_cons, List.map_nil, Nat.reduceAdd, Nat.reduceSub, List.replicate_succ, List.replicate_zero, List.cons_append, List.nil_append, List.append_nil, List.getElem?_cons_zero, List.getElem?_cons_succ, List.set_cons_zero, List.set_cons_succ, ags, ite_true, if_true, g_add, g_sub, g_lt, g_le, g_gt, g_ge, g_eqI, g_neI, g_abs, g_gcd, g_is, g_isNot, ok0, ok1, ok2, ok3, ok4, ok5, ok6, ok7, ok8, ok9, ok10, ok11, ok12, ok13, ok14, ok15, c]
  have s2 : setF 1 (lstF nilF) [some (.fz (.int i)), none] = some (.nx [some (.fz (.int i)), some (.ol [])]) := by simp only [e_seq, e_kseq, e_kseqR, e_kseqB, e_kseqC, e_skip, e_if, e_ifT, e_ifF, e_ret, e_kret, e_kretL, e_kretD, e_kretA, e_kretA2, e_set, e_kset, e_ksetL, e_ksetD, e_ksetS, e_ksetA, e_ksetA2, e_expr, e_knx, e_cvF, e_cvS, e_cvL, e_cvD, e_cfF, e_cfL, e_cdF, e_cdL, e_ckD, e_clL, e_pkF, e_pkL, e_pkA, e_fzF, e_fzL, e_fzA, e_var, e_c, e_op, e_o1, e_o2, e_o3, e_o4, e_tst, e_kt, e_and, e_andT, e_andF, e_or, e_orT, e_orF, e_not, e_knot, e_andV, e_andVT, e_andVF, e_orV, e_orVT, e_orVF, e_notV, e_knotV, e_ifE, e_ifET, e_ifEF, e_neg, e_kneg, e_nil, e_cons, e_a1F, e_a1S, e_a1L, e_a1A, e_a2, e_fa0, e_fa1, e_fa2, e_fa3, e_tup, e_ktup, e_ktup2, e_lst, e_klst, e_klst2, e_pa0, e_pa1, e_pa2, e_pa3, e_cl, e_kcl, e_kcl2, e_dget, e_d1, e_d2, e_d2i, e_d3, e_d4, e_dput, e_p1, e_p2, e_p3, e_p4, e_p5, e_knil, e_kcons, e_k1, e_k2, e_k3, e_disp, e_k4, e_nop, e_somep, e_ksome, e_sl, e_s1, e_s2, e_s3, e_gnm, e_gtp, e_gnil, e_gcons, e_kg, e_asg, e_as1, e_as2, e_as3, e_par, e_pr, e_pr2, e_it, e_i1, e_i2L, e_i2T, e_r1, e_kr1, e_for, e_kfor, e_l0, e_l1, e_l2, e_l3, e_l3c, e_l3b, e_l3r, e_w1, e_wT, e_wF, e_w2, e_fn, e_kfn, e_kfnN, e_kfn2, e_ent, e_out0, e_outN, e_outT, e_outF, e_kout, e_md0, e_md1, e_md2, e_md3, e_call, e_c1, e_c2, e_c3, e_c4, e_en, e_en0, e_es0, e_es, e_e1, e_e0, e_e2, e_e3, e_kp, e_kpL, e_kpD, e_fsS, e_fsF, e_fsA, e_fsL, e_kfr, e_le0, e_le1, e_le2, e_comp, e_lc, e_lc2, e_m0, e_m1, e_m2, e_m3, e_m3F, e_m4, e_m5, e_yes, e_wi0, e_wi1, e_star, e_star2, e_star3, e_isi, e_is1, e_is2, e_orE, e_orE1, e_orE2, e_app, e_ap1, e_ap2, e_ap3, e_ap4, e_ap5, e_ext, e_ex1, e_ex2, e_ex3, e_ex4, e_ex5, e_ch, e_ch1, e_ch2, e_ch3, e_ch4, e_ch5, List.length_cons, List.length_nil, List.map_cons, List.map_nil, Nat.reduceAdd, Nat.reduceSub, List.replicate_succ, List.replicate_zero, List.cons_append, List.nil_append, List.append_nil, List.getElem?_cons_zero, List.getElem?_cons_succ, List.set_cons_zero, List.set_cons_succ, ags, ite_true, if_true, g_add, g_sub, g_lt, g_le, g_gt, g_ge, g_eqI, g_neI, g_abs, g_gcd, g_is, g_isNot, ok0, ok1, ok2, ok3, ok4, ok5, ok6, ok7, ok8, ok9, ok10, ok11, ok12, ok13, ok14, ok15]
  have s4 : retF eR [some (.fz (.int i)), some (.ol [])] = some (.rt (.fz (.str (natT n))) [some (.fz (.int i)), some (.ol [])]) := by rw [e_ret, e, e_kret]
  have b : seqF _ _ [some (.fz (.int i)), none] = _ := seq_ok s1 (seq_ok s2 (seq_ok w s4))
  show fnF 1 2 [] _ _ = _
  exact fnE (ρ := [some (.fz (.int i)), some (.ol [])]) rfl b rfl
theorem itx_pos {n : Nat} : itx (n : Int) = natT n := by
  unfold itx
  rw [if_neg (by omega), Int.natAbs_natCast]
theorem int_ok {i : Int} (h : i.natAbs < 10 ^ 60) : g_integer_text_1 [.fz (.int i)] = some (.fz (.str (itx i)), [.fz (.int i)]) := by
  by_cases hi : i < 0
  · have hp := it_pos (h_integer_text 0) h
    have e : (-i) = ((i.natAbs : Nat) : Int) := by omega
    have l := (nat_len h).1
    have c : decide (i < 0) = true := decide_eq_true hi
    have f : itx i = (Str.empty ++ ("-" : Str)) ++ natT i.natAbs := by
      unfold itx
      rw [if_pos hi, empty_app]
    have l1 : okN (Str.empty ++ ("-" : Str)).length = true := by decide +kernel
    have l0 : (Str.empty ++ ("-" : Str)).length = 1 := by decide +kernel
    have l2 : okN ((Str.empty ++ ("-" : Str)) ++ natT i.natAbs).length = true := decide_eq_true (by
      have := TL.len_tl ((Str.empty ++ ("-" : Str)) ++ natT i.natAbs)
      rw [TL.tl_append, List.length_append, ← TL.len_tl, ← TL.len_tl] at this
      omega)
    have l3 : okN (natT i.natAbs).length = true := decide_eq_true (by omega)
    rw [f]
    show fnF 1 2 [] (m_integer_text (h_integer_text 1)) [.fz (.int i)] = _
    have hq : h_integer_text 1 [.fz (.int (-i))] = some (.fz (.str (natT i.natAbs)), [.fz (.int (-i))]) := by rw [e]; exact hp
    generalize h_integer_text 1 = r at *
    have fs : fstF (jCons (cF (.str "-")) (jCons (fmtF (callF none r (consF (negF (varF 0)) (nilF)) (nilF))) (jNil))) [some (.fz (.int i)), none] = some (.fz (.str ((Str.empty ++ ("-" : Str)) ++ natT i.natAbs)), [some (.fz (.int i)), none]) := by
      have cl : (callF none r (consF (negF (varF 0)) (nilF)) (nilF)) [some (.fz (.int i)), none] = some (.fz (.str (natT i.natAbs)), [some (.fz (.int i)), none]) := by simp only [e_seq, e_kseq, e_kseqR, e_kseqB, e_kseqC, e_skip, e_if, e_ifT, e_ifF, e_ret, e_kret, e_kretL, e_kretD, e_kretA, e_kretA2, e_set, e_kset, e_ksetL, e_ksetD, e_ksetS, e_ksetA, e_ksetA2, e_expr, e_knx, e_cvF, e_cvS, e_cvL, e_cvD, e_cfF, e_cfL, e_cdF, e_cdL, e_ckD, e_clL, e_pkF, e_pkL, e_pkA, e_fzF, e_fzL, e_fzA, e_var, e_c, e_op, e_o1, e_o2, e_o3, e_o4, e_tst, e_kt, e_and, e_andT, e_andF, e_or, e_orT, e_orF, e_not, e_knot, e_andV, e_andVT, e_andVF, e_orV, e_orVT, e_orVF, e_notV, e_knotV, e_ifE, e_ifET, e_ifEF, e_neg, e_kneg, e_nil, e_cons, e_a1F, e_a1S, e_a1L, e_a1A, e_a2, e_fa0, e_fa1, e_fa2, e_fa3, e_tup, e_ktup, e_ktup2, e_lst, e_klst, e_klst2, e_pa0, e_pa1, e_pa2, e_pa3, e_cl, e_kcl, e_kcl2, e_dget, e_d1, e_d2, e_d2i, e_d3, e_d4, e_dput, e_p1, e_p2, e_p3, e_p4, e_p5, e_knil, e_kcons, e_k1, e_k2, e_k3, e_disp, e_k4, e_nop, e_somep, e_ksome, e_sl, e_s1, e_s2, e_s3, e_gnm, e_gtp, e_gnil, e_gcons, e_kg, e_asg, e_as1, e_as2, e_as3, e_par, e_pr, e_pr2, e_it, e_i1, e_i2L, e_i2T, e_r1, e_kr1, e_for, e_kfor, e_l0, e_l1, e_l2, e_l3, e_l3c, e_l3b, e_l3r, e_w1, e_wT, e_wF, e_w2, e_fn, e_kfn, e_kfnN, e_kfn2, e_ent, e_out0, e_outN, e_outT, e_outF, e_kout, e_md0, e_md1, e_md2, e_md3, e_call, e_c1, e_c2, e_c3, e_c4, e_en, e_en0, e_es0, e_es, e_e1, e_e0, e_e2, e_e3, e_kp, e_kpL, e_kpD, e_fsS, e_fsF, e_fsA, e_fsL, e_kfr, e_le0, e_le1, e_le2, e_comp, e_lc, e_lc2, e_m0, e_m1, e_m2, e_m3, e_m3F, e_m4, e_m5, e_yes, e_wi0, e_wi1, e_star, e_star2, e_star3, e_isi, e_is1, e_is2, e_orE, e_orE1, e_orE2, e_app, e_ap1, e_ap2, e_ap3, e_ap4, e_ap5, e_ext, e_ex1, e_ex2, e_ex3, e_ex4, e_ex5, e_ch, e_ch1, e_ch2, e_ch3, e_ch4, e_ch5, List.length_cons, List.length_nil, List.map_cons, List.map_nil, Nat.reduceAdd, Nat.reduceSub, List.replicate_succ, List.replicate_zero, List.cons_append, List.nil_append, List.append_nil, List.getElem?_cons_zero, List.getElem?_cons_succ, List.set_cons_zero, List.set_cons_succ, ags, ite_true, if_true, g_add, g_sub, g_lt, g_le, g_gt, g_ge, g_eqI, g_neI, g_abs, g_gcd, g_is, g_isNot, ok0, ok1, ok2, ok3, ok4, ok5, ok6, ok7, ok8, ok9, ok10, ok11, ok12, ok13, ok14, ok15, hq]
      refine fst_ok ((j_cons (y := ("-" : Str)) rfl (by decide +kernel)).trans ((j_cons (fmt_ok cl (by omega)) ?_).trans j_nil))
      omega
    have s1 : ifSF (tstF (opF gLt (varF 0) (cF (.int 0)))) (retF (fstF (jCons (cF (.str "-")) (jCons (fmtF (callF none r (consF (negF (varF 0)) (nilF)) (nilF))) (jNil))))) (skipF) [some (.fz (.int i)), none] = some (.rt (.fz (.str ((Str.empty ++ ("-" : Str)) ++ natT i.natAbs))) [some (.fz (.int i)), none]) := by
      have t : tstF (opF gLt (varF 0) (cF (.int 0))) [some (.fz (.int i)), none] = some (true, [some (.fz (.int i)), none]) := by simp only [e_seq, e_kseq, e_kseqR, e_kseqB, e_kseqC, e_skip, e_if, e_ifT, e_ifF, e_ret, e_kret, e_kretL, e_kretD, e_kretA, e_kretA2, e_set, e_kset, e_ksetL, e_ksetD, e_ksetS, e_ksetA, e_ksetA2, e_expr, e_knx, e_cvF, e_cvS, e_cvL, e_cvD, e_cfF, e_cfL, e_cdF, e_cdL, e_ckD, e_clL, e_pkF, e_pkL, e_pkA, e_fzF, e_fzL, e_fzA, e_var, e_c, e_op, e_o1, e_o2, e_o3, e_o4, e_tst, e_kt, e_and, e_andT, e_andF, e_or, e_orT, e_orF, e_not, e_knot, e_andV, e_andVT, e_andVF, e_orV, e_orVT, e_orVF, e_notV, e_knotV, e_ifE, e_ifET, e_ifEF, e_neg, e_kneg, e_nil, e_cons, e_a1F, e_a1S, e_a1L, e_a1A, e_a2, e_fa0, e_fa1, e_fa2, e_fa3, e_tup, e_ktup, e_ktup2, e_lst, e_klst, e_klst2, e_pa0, e_pa1, e_pa2, e_pa3, e_cl, e_kcl, e_kcl2, e_dget, e_d1, e_d2, e_d2i, e_d3, e_d4, e_dput, e_p1, e_p2, e_p3, e_p4, e_p5, e_knil, e_kcons, e_k1, e_k2, e_k3, e_disp, e_k4, e_nop, e_somep, e_ksome, e_sl, e_s1, e_s2, e_s3, e_gnm, e_gtp, e_gnil, e_gcons, e_kg, e_asg, e_as1, e_as2, e_as3, e_par, e_pr, e_pr2, e_it, e_i1, e_i2L, e_i2T, e_r1, e_kr1, e_for, e_kfor, e_l0, e_l1, e_l2, e_l3, e_l3c, e_l3b, e_l3r, e_w1, e_wT, e_wF, e_w2, e_fn, e_kfn, e_kfnN, e_kfn2, e_ent, e_out0, e_outN, e_outT, e_outF, e_kout, e_md0, e_md1, e_md2, e_md3, e_call, e_c1, e_c2, e_c3, e_c4, e_en, e_en0, e_es0, e_es, e_e1, e_e0, e_e2, e_e3, e_kp, e_kpL, e_kpD, e_fsS, e_fsF, e_fsA, e_fsL, e_kfr, e_le0, e_le1, e_le2, e_comp, e_lc, e_lc2, e_m0, e_m1, e_m2, e_m3, e_m3F, e_m4, e_m5, e_yes, e_wi0, e_wi1, e_star, e_star2, e_star3, e_isi, e_is1, e_is2, e_orE, e_orE1, e_orE2, e_app, e_ap1, e_ap2, e_ap3, e_ap4, e_ap5, e_ext, e_ex1, e_ex2, e_ex3, e_ex4, e_ex5, e_ch, e_ch1, e_ch2, e_ch3, e_ch4, e_ch5, List.length_cons, List.length_nil, List.map_cons, List.map_nil, Nat.reduceAdd, Nat.reduceSub, List.replicate_succ, List.replicate_zero, List.cons_append, List.nil_append, List.append_nil, List.getElem?_cons_zero, List.getElem?_cons_succ, List.set_cons_zero, List.set_cons_succ, ags, ite_true, if_true, g_add, g_sub, g_lt, g_le, g_gt, g_ge, g_eqI, g_neI, g_abs, g_gcd, g_is, g_isNot, ok0, ok1, ok2, ok3, ok4, ok5, ok6, ok7, ok8, ok9, ok10, ok11, ok12, ok13, ok14, ok15, c]
      rw [e_if, t, e_ifT, e_ret, fs, e_kret]
    unfold m_integer_text
    refine fnE (ρ := [some (.fz (.int i)), none]) rfl ?_ rfl
    show seqF _ _ [some (.fz (.int i)), none] = _
    rw [e_seq, s1, e_kseqR]
  · have e : i = ((i.natAbs : Nat) : Int) := by omega
    have hp := it_pos (h_integer_text 1) h
    generalize i.natAbs = n at *
    subst e
    rw [itx_pos]
    exact hp
end LW

namespace LW
open L2 PySem PySem.Spec PyProof.Rows DL RT
set_option maxHeartbeats 0
def S60 (q : Rat) : Prop := q.num.natAbs < 10 ^ 60 ∧ q.den < 10 ^ 60
theorem S60.of {k : Nat} {q : Rat} (h : Sz k q) (hk : k ≤ 199) : S60 q := ⟨Nat.lt_trans (h.up hk).1 (by decide), Nat.lt_trans (h.up hk).2 (by decide)⟩
theorem ftext_ok {q : Rat} (h : S60 q) : g_fraction_text_1 [.fz (fD q)] = some (.fz (.str (ftx q)), [.fz (fD q)]) := by
  have h1 := int_ok h.1
  have hd : ((q.den : Nat) : Int).natAbs < 10 ^ 60 := by rw [Int.natAbs_natCast]; exact h.2
  have h2 := int_ok hd
  rw [itx_pos] at h2
  have s1 : asgF (varF 0) (gTp (gsCons (gNm 1) (gsCons (gNm 2) (gsNil)))) [some (.fz (fD q)), none, none] = some (.nx [some (.fz (fD q)), some (.fz (.int q.num)), some (.fz (.int (q.den : Int)))]) := rfl
  have c1 : (callF none g_integer_text_1 (consF (varF 1) (nilF)) (nilF)) [some (.fz (fD q)), some (.fz (.int q.num)), some (.fz (.int (q.den : Int)))] = some (.fz (.str (itx q.num)), [some (.fz (fD q)), some (.fz (.int q.num)), some (.fz (.int (q.den : Int)))]) := by
    generalize fD q = T at *
    simp only [e_seq, e_kseq, e_kseqR, e_kseqB, e_kseqC, e_skip, e_if, e_ifT, e_ifF, e_ret, e_kret, e_kretL, e_kretD, e_kretA, e_kretA2, e_set, e_kset, e_ksetL, e_ksetD, e_ksetS, e_ksetA, e_ksetA2, e_expr, e_knx, e_cvF, e_cvS, e_cvL, e_cvD, e_cfF, e_cfL, e_cdF, e_cdL, e_ckD, e_clL, e_pkF, e_pkL, e_pkA, e_fzF, e_fzL, e_fzA, e_var, e_c, e_op, e_o1, e_o2, e_o3, e_o4, e_tst, e_kt, e_and, e_andT, e_andF, e_or, e_orT, e_orF, e_not, e_knot, e_andV, e_andVT, e_andVF, e_orV, e_orVT, e_orVF, e_notV, e_knotV, e_ifE, e_ifET, e_ifEF, e_neg, e_kneg, e_nil, e_cons, e_a1F, e_a1S, e_a1L, e_a1A, e_a2, e_fa0, e_fa1, e_fa2, e_fa3, e_tup, e_ktup, e_ktup2, e_lst, e_klst, e_klst2, e_pa0, e_pa1, e_pa2, e_pa3, e_cl, e_kcl, e_kcl2, e_dget, e_d1, e_d2, e_d2i, e_d3, e_d4, e_dput, e_p1, e_p2, e_p3, e_p4, e_p5, e_knil, e_kcons, e_k1, e_k2, e_k3, e_disp, e_k4, e_nop, e_somep, e_ksome, e_sl, e_s1, e_s2, e_s3, e_gnm, e_gtp, e_gnil, e_gcons, e_kg, e_asg, e_as1, e_as2, e_as3, e_par, e_pr, e_pr2, e_it, e_i1, e_i2L, e_i2T, e_r1, e_kr1, e_for, e_kfor, e_l0, e_l1, e_l2, e_l3, e_l3c, e_l3b, e_l3r, e_w1, e_wT, e_wF, e_w2, e_fn, e_kfn, e_kfnN, e_kfn2, e_ent, e_out0, e_outN, e_outT, e_outF, e_kout, e_md0, e_md1, e_md2, e_md3, e_call, e_c1, e_c2, e_c3, e_c4, e_en, e_en0, e_es0, e_es, e_e1, e_e0, e_e2, e_e3, e_kp, e_kpL, e_kpD, e_fsS, e_fsF, e_fsA, e_fsL, e_kfr, e_le0, e_le1, e_le2, e_comp, e_lc, e_lc2, e_m0, e_m1, e_m2, e_m3, e_m3F, e_m4, e_m5, e_yes, e_wi0, e_wi1, e_star, e_star2, e_star3, e_isi, e_is1, e_is2, e_orE, e_orE1, e_orE2, e_app, e_ap1, e_ap2, e_ap3, e_ap4, e_ap5, e_ext, e_ex1, e_ex2, e_ex3, e_ex4, e_ex5, e_ch, e_ch1, e_ch2, e_ch3, e_ch4, e_ch5, List.length_cons, List.length_nil, List.map_cons, List.map_nil, Nat.reduceAdd, Nat.reduceSub, List.replicate_succ, List.replicate_zero, List.cons_append, List.nil_append, List.append_nil, List.getElem?_cons_zero, List.getElem?_cons_succ, List.set_cons_zero, List.set_cons_succ, ags, ite_true, if_true, g_add, g_sub, g_lt, g_le, g_gt, g_ge, g_eqI, g_neI, g_abs, g_gcd, g_is, g_isNot, ok0, ok1, ok2, ok3, ok4, ok5, ok6, ok7, ok8, ok9, ok10, ok11, ok12, ok13, ok14, ok15, h1]
  have c2 : (callF none g_integer_text_1 (consF (varF 2) (nilF)) (nilF)) [some (.fz (fD q)), some (.fz (.int q.num)), some (.fz (.int (q.den : Int)))] = some (.fz (.str (natT q.den)), [some (.fz (fD q)), some (.fz (.int q.num)), some (.fz (.int (q.den : Int)))]) := by
    generalize fD q = T at *
    simp only [e_seq, e_kseq, e_kseqR, e_kseqB, e_kseqC, e_skip, e_if, e_ifT, e_ifF, e_ret, e_kret, e_kretL, e_kretD, e_kretA, e_kretA2, e_set, e_kset, e_ksetL, e_ksetD, e_ksetS, e_ksetA, e_ksetA2, e_expr, e_knx, e_cvF, e_cvS, e_cvL, e_cvD, e_cfF, e_cfL, e_cdF, e_cdL, e_ckD, e_clL, e_pkF, e_pkL, e_pkA, e_fzF, e_fzL, e_fzA, e_var, e_c, e_op, e_o1, e_o2, e_o3, e_o4, e_tst, e_kt, e_and, e_andT, e_andF, e_or, e_orT, e_orF, e_not, e_knot, e_andV, e_andVT, e_andVF, e_orV, e_orVT, e_orVF, e_notV, e_knotV, e_ifE, e_ifET, e_ifEF, e_neg, e_kneg, e_nil, e_cons, e_a1F, e_a1S, e_a1L, e_a1A, e_a2, e_fa0, e_fa1, e_fa2, e_fa3, e_tup, e_ktup, e_ktup2, e_lst, e_klst, e_klst2, e_pa0, e_pa1, e_pa2, e_pa3, e_cl, e_kcl, e_kcl2, e_dget, e_d1, e_d2, e_d2i, e_d3, e_d4, e_dput, e_p1, e_p2, e_p3, e_p4, e_p5, e_knil, e_kcons, e_k1, e_k2, e_k3, e_disp, e_k4, e_nop, e_somep, e_ksome, e_sl, e_s1, e_s2, e_s3, e_gnm, e_gtp, e_gnil, e_gcons, e_kg, e_asg, e_as1, e_as2, e_as3, e_par, e_pr, e_pr2, e_it, e_i1, e_i2L, e_i2T, e_r1, e_kr1, e_for, e_kfor, e_l0, e_l1, e_l2, e_l3, e_l3c, e_l3b, e_l3r, e_w1, e_wT, e_wF, e_w2, e_fn, e_kfn, e_kfnN, e_kfn2, e_ent, e_out0, e_outN, e_outT, e_outF, e_kout, e_md0, e_md1, e_md2, e_md3, e_call, e_c1, e_c2, e_c3, e_c4, e_en, e_en0, e_es0, e_es, e_e1, e_e0, e_e2, e_e3, e_kp, e_kpL, e_kpD, e_fsS, e_fsF, e_fsA, e_fsL, e_kfr, e_le0, e_le1, e_le2, e_comp, e_lc, e_lc2, e_m0, e_m1, e_m2, e_m3, e_m3F, e_m4, e_m5, e_yes, e_wi0, e_wi1, e_star, e_star2, e_star3, e_isi, e_is1, e_is2, e_orE, e_orE1, e_orE2, e_app, e_ap1, e_ap2, e_ap3, e_ap4, e_ap5, e_ext, e_ex1, e_ex2, e_ex3, e_ex4, e_ex5, e_ch, e_ch1, e_ch2, e_ch3, e_ch4, e_ch5, List.length_cons, List.length_nil, List.map_cons, List.map_nil, Nat.reduceAdd, Nat.reduceSub, List.replicate_succ, List.replicate_zero, List.cons_append, List.nil_append, List.append_nil, List.getElem?_cons_zero, List.getElem?_cons_succ, List.set_cons_zero, List.set_cons_succ, ags, ite_true, if_true, g_add, g_sub, g_lt, g_le, g_gt, g_ge, g_eqI, g_neI, g_abs, g_gcd, g_is, g_isNot, ok0, ok1, ok2, ok3, ok4, ok5, ok6, ok7, ok8, ok9, ok10, ok11, ok12, ok13, ok14, ok15, h2]
  unfold g_fraction_text_1 g_fraction_text m_fraction_text
  refine fnE (ρ := [some (.fz (fD q)), some (.fz (.int q.num)), some (.fz (.int (q.den : Int)))]) rfl (seq_ok s1 ?_) rfl
  by_cases e : q.den = 1
  · have f : ftx q = itx q.num := if_pos e
    have t : tstF (opF gEq (varF 2) (cF (.int 1))) [some (.fz (fD q)), some (.fz (.int q.num)), some (.fz (.int (q.den : Int)))] = some (true, [some (.fz (fD q)), some (.fz (.int q.num)), some (.fz (.int (q.den : Int)))]) := by
      have d : decide ((q.den : Int) = 1) = true := decide_eq_true (by omega)
      generalize fD q = T at *
      simp only [e_seq, e_kseq, e_kseqR, e_kseqB, e_kseqC, e_skip, e_if, e_ifT, e_ifF, e_ret, e_kret, e_kretL, e_kretD, e_kretA, e_kretA2, e_set, e_kset, e_ksetL, e_ksetD, e_ksetS, e_ksetA, e_ksetA2, e_expr, e_knx, e_cvF, e_cvS, e_cvL, e_cvD, e_cfF, e_cfL, e_cdF, e_cdL, e_ckD, e_clL, e_pkF, e_pkL, e_pkA, e_fzF, e_fzL, e_fzA, e_var, e_c, e_op, e_o1, e_o2, e_o3, e_o4, e_tst, e_kt, e_and, e_andT, e_andF, e_or, e_orT, e_orF, e_not, e_knot, e_andV, e_andVT, e_andVF, e_orV, e_orVT, e_orVF, e_notV, e_knotV, e_ifE, e_ifET, e_ifEF, e_neg, e_kneg, e_nil, e_cons, e_a1F, e_a1S, e_a1L, e_a1A, e_a2, e_fa0, e_fa1, e_fa2, e_fa3, e_tup, e_ktup, e_ktup2, e_lst, e_klst, e_klst2, e_pa0, e_pa1, e_pa2, e_pa3, e_cl, e_kcl, e_kcl2, e_dget, e_d1, e_d2, e_d2i, e_d3, e_d4, e_dput, e_p1, e_p2, e_p3, e_p4, e_p5, e_knil, e_kcons, e_k1, e_k2, e_k3, e_disp, e_k4, e_nop, e_somep, e_ksome, e_sl, e_s1, e_s2, e_s3, e_gnm, e_gtp, e_gnil, e_gcons, e_kg, e_asg, e_as1, e_as2, e_as3, e_par, e_pr, e_pr2, e_it, e_i1, e_i2L, e_i2T, e_r1, e_kr1, e_for, e_kfor, e_l0, e_l1, e_l2, e_l3, e_l3c, e_l3b, e_l3r, e_w1, e_wT, e_wF, e_w2, e_fn, e_kfn, e_kfnN, e_kfn2, e_ent, e_out0, e_outN, e_outT, e_outF, e_kout, e_md0, e_md1, e_md2, e_md3, e_call, e_c1, e_c2, e_c3, e_c4, e_en, e_en0, e_es0, e_es, e_e1, e_e0, e_e2, e_e3, e_kp, e_kpL, e_kpD, e_fsS, e_fsF, e_fsA, e_fsL, e_kfr, e_le0, e_le1, e_le2, e_comp, e_lc, e_lc2, e_m0, e_m1, e_m2, e_m3, e_m3F, e_m4, e_m5, e_yes, e_wi0, e_wi1, e_star, e_star2, e_star3, e_isi, e_is1, e_is2, e_orE, e_orE1, e_orE2, e_app, e_ap1, e_ap2, e_ap3, e_ap4, e_ap5, e_ext, e_ex1, e_ex2, e_ex3, e_ex4, e_ex5, e_ch, e_ch1, e_ch2, e_ch3, e_ch4, e_ch5, List.length_cons, List.length_nil, List.map_cons, List.map_nil, Nat.reduceAdd, Nat.reduceSub, List.replicate_succ, List.replicate_zero, List.cons_append, List.nil_append, List.append_nil, List.getElem?_cons_zero, List.getElem?_cons_succ, List.set_cons_zero, List.set_cons_succ, ags, ite_true, if_true, g_add, g_sub, g_lt, g_le, g_gt, g_ge, g_eqI, g_neI, g_abs, g_gcd, g_is, g_isNot, ok0, ok1, ok2, ok3, ok4, ok5, ok6, ok7, ok8, ok9, ok10, ok11, ok12, ok13, ok14, ok15, d]
    rw [e_seq, e_if, t, e_ifT, f, ret_ok c1, e_kseqR]
  · have f : ftx q = ((Str.empty ++ itx q.num) ++ slash) ++ natT q.den := by
      rw [empty_app]
      exact if_neg e
    have t : tstF (opF gEq (varF 2) (cF (.int 1))) [some (.fz (fD q)), some (.fz (.int q.num)), some (.fz (.int (q.den : Int)))] = some (false, [some (.fz (fD q)), some (.fz (.int q.num)), some (.fz (.int (q.den : Int)))]) := by
      have d : decide ((q.den : Int) = 1) = false := decide_eq_false (by omega)
      generalize fD q = T at *
      simp only [e_seq, e_kseq, e_kseqR, e_kseqB, e_kseqC, e_skip, e_if, e_ifT, e_ifF, e_ret, e_kret, e_kretL, e_kretD, e_kretA, e_kretA2, e_set, e_kset, e_ksetL, e_ksetD, e_ksetS, e_ksetA, e_ksetA2, e_expr, e_knx, e_cvF, e_cvS, e_cvL, e_cvD, e_cfF, e_cfL, e_cdF, e_cdL, e_ckD, e_clL, e_pkF, e_pkL, e_pkA, e_fzF, e_fzL, e_fzA, e_var, e_c, e_op, e_o1, e_o2, e_o3, e_o4, e_tst, e_kt, e_and, e_andT, e_andF, e_or, e_orT, e_orF, e_not, e_knot, e_andV, e_andVT, e_andVF, e_orV, e_orVT, e_orVF, e_notV, e_knotV, e_ifE, e_ifET, e_ifEF, e_neg, e_kneg, e_nil, e_cons, e_a1F, e_a1S, e_a1L, e_a1A, e_a2, e_fa0, e_fa1, e_fa2, e_fa3, e_tup, e_ktup, e_ktup2, e_lst, e_klst, e_klst2, e_pa0, e_pa1, e_pa2, e_pa3, e_cl, e_kcl, e_kcl2, e_dget, e_d1, e_d2, e_d2i, e_d3, e_d4, e_dput, e_p1, e_p2, e_p3, e_p4, e_p5, e_knil, e_kcons, e_k1, e_k2, e_k3, e_disp, e_k4, e_nop, e_somep, e_ksome, e_sl, e_s1, e_s2, e_s3, e_gnm, e_gtp, e_gnil, e_gcons, e_kg, e_asg, e_as1, e_as2, e_as3, e_par, e_pr, e_pr2, e_it, e_i1, e_i2L, e_i2T, e_r1, e_kr1, e_for, e_kfor, e_l0, e_l1, e_l2, e_l3, e_l3c, e_l3b, e_l3r, e_w1, e_wT, e_wF, e_w2, e_fn, e_kfn, e_kfnN, e_kfn2, e_ent, e_out0, e_outN, e_outT, e_outF, e_kout, e_md0, e_md1, e_md2, e_md3, e_call, e_c1, e_c2, e_c3, e_c4, e_en, e_en0, e_es0, e_es, e_e1, e_e0, e_e2, e_e3, e_kp, e_kpL, e_kpD, e_fsS, e_fsF, e_fsA, e_fsL, e_kfr, e_le0, e_le1, e_le2, e_comp, e_lc, e_lc2, e_m0, e_m1, e_m2, e_m3, e_m3F, e_m4, e_m5, e_yes, e_wi0, e_wi1, e_star, e_star2, e_star3, e_isi, e_is1, e_is2, e_orE, e_orE1, e_orE2, e_app, e_ap1, e_ap2, e_ap3, e_ap4, e_ap5, e_ext, e_ex1, e_ex2, e_ex3, e_ex4, e_ex5, e_ch, e_ch1, e_ch2, e_ch3, e_ch4, e_ch5, List.length_cons, List.length_nil, List.map_cons, List.map_nil, Nat.reduceAdd, Nat.reduceSub, List.replicate_succ, List.replicate_zero, List.cons_append, List.nil_append, List.append_nil, List.getElem?_cons_zero, List.getElem?_cons_succ, List.set_cons_zero, List.set_cons_succ, ags, ite_true, if_true, g_add, g_sub, g_lt, g_le, g_gt, g_ge, g_eqI, g_neI, g_abs, g_gcd, g_is, g_isNot, ok0, ok1, ok2, ok3, ok4, ok5, ok6, ok7, ok8, ok9, ok10, ok11, ok12, ok13, ok14, ok15, d]
    have n1 := itx_len h.1
    have n2 := (nat_len h.2).1
    have l0 : Str.empty.length = 0 := rfl
    have l1 : (Str.empty ++ itx q.num).length ≤ 61 := by rw [empty_app]; exact n1
    have ls : slash.length = 1 := by decide +kernel
    have l2 : ((Str.empty ++ itx q.num) ++ slash).length ≤ 62 := by
      rw [TL.len_tl, TL.tl_append, List.length_append, ← TL.len_tl, ← TL.len_tl]
      omega
    rw [f]
    refine seq_ok (if_no t) (ret_ok (fst_ok ((j_cons (fmt_ok c1 (by omega)) (by omega)).trans ((j_cons (y := slash) rfl (by omega)).trans ((j_cons (fmt_ok c2 (by omega)) (by omega)).trans j_nil)))))
/-! ### digits -/
abbrev sgn (c : Nat) : PyData := .str ⟨#[c]⟩
theorem lt1 {a b : Nat} : (([a] : List Nat) < [b]) ↔ a < b := by
  simp [List.cons_lt_cons_iff]
theorem le_0 {c : Nat} (h : 48 ≤ c) : gLe (.str "0") (sgn c) = some (.fz (.bool true)) := by
  have e : gLe (.str "0") (sgn c) = some (.fz (.bool (!strLt ⟨#[c]⟩ "0"))) := rfl
  have e2 : strLt ⟨#[c]⟩ "0" = decide (c < 48) := decide_eq_decide.mpr (by
    show ([c] : List Nat) < ("0" : Str).cps.toList ↔ c < 48
    rw [show ("0" : Str).cps.toList = [48] from by decide +kernel]
    exact lt1)
  rw [e, e2, decide_eq_false (by omega)]
  rfl
theorem le_9 {c : Nat} (h : c ≤ 57) : gLe (sgn c) (.str "9") = some (.fz (.bool true)) := by
  have e : gLe (sgn c) (.str "9") = some (.fz (.bool (!strLt "9" ⟨#[c]⟩))) := rfl
  have e2 : strLt "9" ⟨#[c]⟩ = decide (57 < c) := decide_eq_decide.mpr (by
    show ("9" : Str).cps.toList < ([c] : List Nat) ↔ 57 < c
    rw [show ("9" : Str).cps.toList = [57] from by decide +kernel]
    exact lt1)
  rw [e, e2, decide_eq_false (by omega)]
  rfl
theorem dig_loop {x0 : Option S} : ∀ (cs : List Nat) (acc : List PyData), acc.length + cs.length ≤ 1000 → NumText.AllDigits cs → compL (gNm 1) yesF (chF gLe gLe (cF (.str "0")) (varF 1) (cF (.str "9"))) [1] (cs.map sgn) [x0, none] acc = some (acc ++ cs.map (fun _ => .bool true), [x0, none])
  | [], acc, _, _ => by rw [List.map_nil, List.map_nil, List.append_nil]; rfl
  | c :: cs, acc, h, hd => by
    rw [List.length_cons] at h
    have ih := dig_loop (x0 := x0) cs (acc ++ [.bool true]) (by rw [List.length_append]; simp only [List.length_cons, List.length_nil]; omega) hd.tail
    have ok : okN (acc.length + 1) = true := decide_eq_true (by omega)
    rw [List.map_cons, List.map_cons, show acc ++ PyData.bool true :: cs.map (fun _ => PyData.bool true) = (acc ++ [.bool true]) ++ cs.map (fun _ => PyData.bool true) by rw [List.append_assoc]; rfl, ← ih]
    simp only [e_seq, e_kseq, e_kseqR, e_kseqB, e_kseqC, e_skip, e_if, e_ifT, e_ifF, e_ret, e_kret, e_kretL, e_kretD, e_kretA, e_kretA2, e_set, e_kset, e_ksetL, e_ksetD, e_ksetS, e_ksetA, e_ksetA2, e_expr, e_knx, e_cvF, e_cvS, e_cvL, e_cvD, e_cfF, e_cfL, e_cdF, e_cdL, e_ckD, e_clL, e_pkF, e_pkL, e_pkA, e_fzF, e_fzL, e_fzA, e_var, e_c, e_op, e_o1, e_o2, e_o3, e_o4, e_tst, e_kt, e_and, e_andT, e_andF, e_or, e_orT, e_orF, e_not, e_knot, e_andV, e_andVT, e_andVF, e_orV, e_orVT, e_orVF, e_notV, e_knotV, e_ifE, e_ifET, e_ifEF, e_neg, e_kneg, e_nil, e_cons, e_a1F, e_a1S, e_a1L, e_a1A, e_a2, e_fa0, e_fa1, e_fa2, e_fa3, e_tup, e_ktup, e_ktup2, e_lst, e_klst, e_klst2, e_pa0, e_pa1, e_pa2, e_pa3, e_cl, e_kcl, e_kcl2, e_dget, e_d1, e_d2, e_d2i, e_d3, e_d4, e_dput, e_p1, e_p2, e_p3, e_p4, e_p5, e_knil, e_kcons, e_k1, e_k2, e_k3, e_disp, e_k4, e_nop, e_somep, e_ksome, e_sl, e_s1, e_s2, e_s3, e_gnm, e_gtp, e_gnil, e_gcons, e_kg, e_asg, e_as1, e_as2, e_as3, e_par, e_pr, e_pr2, e_it, e_i1, e_i2L, e_i2T, e_r1, e_kr1, e_for, e_kfor, e_l0, e_l1, e_l2, e_l3, e_l3c, e_l3b, e_l3r, e_w1, e_wT, e_wF, e_w2, e_fn, e_kfn, e_kfnN, e_kfn2, e_ent, e_out0, e_outN, e_outT, e_outF, e_kout, e_md0, e_md1, e_md2, e_md3, e_call, e_c1, e_c2, e_c3, e_c4, e_en, e_en0, e_es0, e_es, e_e1, e_e0, e_e2, e_e3, e_kp, e_kpL, e_kpD, e_fsS, e_fsF, e_fsA, e_fsL, e_kfr, e_le0, e_le1, e_le2, e_comp, e_lc, e_lc2, e_m0, e_m1, e_m2, e_m3, e_m3F, e_m4, e_m5, e_yes, e_wi0, e_wi1, e_star, e_star2, e_star3, e_isi, e_is1, e_is2, e_orE, e_orE1, e_orE2, e_app, e_ap1, e_ap2, e_ap3, e_ap4, e_ap5, e_ext, e_ex1, e_ex2, e_ex3, e_ex4, e_ex5, e_ch, e_ch1, e_ch2, e_ch3, e_ch4, e_ch5, List.length_cons, List.length_nil, List.map_cons, List.map_nil, Nat.reduceAdd, Nat.reduceSub, List.replicate_succ, List.replicate_zero, List.cons_append, List.nil_append, List.append_nil, List.getElem?_cons_zero, List.getElem?_cons_succ, List.set_cons_zero, List.set_cons_succ, ags, ite_true, if_true, g_add, g_sub, g_lt, g_le, g_gt, g_ge, g_eqI, g_neI, g_abs, g_gcd, g_is, g_isNot, ok0, ok1, ok2, ok3, ok4, ok5, ok6, ok7, ok8, ok9, ok10, ok11, ok12, ok13, ok14, ok15, le_0 hd.head.1, le_9 hd.head.2, ok]
theorem bools_t : ∀ cs : List Nat, boolsD (cs.map fun _ => .bool true) = some (cs.map fun _ => true)
  | [] => rfl
  | c :: cs => by
    rw [List.map_cons, boolsD, bools_t cs]
    rfl
theorem all_t (cs : List Nat) : gAll [.list (cs.map fun _ => .bool true)] = some (.fz (.bool true)) := by
  have e : gAll [.list (cs.map fun _ => .bool true)] = (boolsD (cs.map fun _ => .bool true)).map fun bs => .fz (.bool (bs.all id)) := rfl
  rw [e, bools_t]
  show some (S.fz (.bool ((cs.map fun _ => true).all id))) = _
  congr 3
  rw [List.all_eq_true]
  intro b hb
  obtain ⟨_, _, e⟩ := List.mem_map.mp hb
  exact e.symm
theorem it_s {z : Str} {x1 : Option S} (h : z.length ≤ 100000) : itI (varF 0) [some (.fz (.str z)), x1] = some (signsD z, [some (.fz (.str z)), x1]) := by
  have e : itI (varF 0) [some (.fz (.str z)), x1] = (if okN z.length then some (signsD z) else none).map fun ds => (ds, [some (.fz (.str z)), x1]) := rfl
  rw [e, show okN z.length = true from decide_eq_true h]
  rfl
theorem digits_ok {n : Nat} (h : n < 10 ^ 60) : g_are_digits_1 [.fz (.str (natT n))] = some (.fz (.bool true), [.fz (.str (natT n))]) := by
  obtain ⟨l1, l2⟩ := nat_len h
  have gl : gLen [.str (natT n)] = some (.fz (.int ((natT n).length : Int))) := by
    have e : gLen [.str (natT n)] = if okN (natT n).length then some (.fz (.int ((natT n).length : Int))) else none := rfl
    rw [e, show okN (natT n).length = true from decide_eq_true (by omega)]
    rfl
  have c1 : decide ((1 : Int) ≤ ((natT n).length : Int)) = true := decide_eq_true (by omega)
  have c2 : decide (((natT n).length : Int) ≤ 60) = true := decide_eq_true (by omega)
  have is := it_s (z := natT n) (x1 := none) (by omega)
  have sg : signsD (natT n) = (TL.numL n).map sgn := by
    unfold signsD
    rw [← tl_natT]
  rw [sg] at is
  have dl := dig_loop (x0 := some (.fz (.str (natT n)))) (TL.numL n) [] (by
    have := TL.numL_len (n := n) (k := 60) (by decide) h
    simp only [List.length_nil]; omega) (TL.numL_digits n)
  rw [List.nil_append] at dl
  have co := comp_ok is rfl dl
  have al := all_t (TL.numL n)
  generalize natT n = z at *
  have e1 : chF gLe gLe (cF (.int 1)) (clF gLen (consF (varF 0) (nilF))) (cF (.int 60)) [some (.fz (.str z)), none] = some (.fz (.bool true), [some (.fz (.str z)), none]) := by
    simp only [e_seq, e_kseq, e_kseqR, e_kseqB, e_kseqC, e_skip, e_if, e_ifT, e_ifF, e_ret, e_kret, e_kretL, e_kretD, e_kretA, e_kretA2, e_set, e_kset, e_ksetL, e_ksetD, e_ksetS, e_ksetA, e_ksetA2, e_expr, e_knx, e_cvF, e_cvS, e_cvL, e_cvD, e_cfF, e_cfL, e_cdF, e_cdL, e_ckD, e_clL, e_pkF, e_pkL, e_pkA, e_fzF, e_fzL, e_fzA, e_var, e_c, e_op, e_o1, e_o2, e_o3, e_o4, e_tst, e_kt, e_and, e_andT, e_andF, e_or, e_orT, e_orF, e_not, e_knot, e_andV, e_andVT, e_andVF, e_orV, e_orVT, e_orVF, e_notV, e_knotV, e_ifE, e_ifET, e_ifEF, e_neg, e_kneg, e_nil, e_cons, e_a1F, e_a1S, e_a1L, e_a1A, e_a2, e_fa0, e_fa1, e_fa2, e_fa3, e_tup, e_ktup, e_ktup2, e_lst, e_klst, e_klst2, e_pa0, e_pa1, e_pa2, e_pa3, e_cl, e_kcl, e_kcl2, e_dget, e_d1, e_d2, e_d2i, e_d3, e_d4, e_dput, e_p1, e_p2, e_p3, e_p4, e_p5, e_knil, e_kcons, e_k1, e_k2, e_k3, e_disp, e_k4, e_nop, e_somep, e_ksome, e_sl, e_s1, e_s2, e_s3, e_gnm, e_gtp, e_gnil, e_gcons, e_kg, e_asg, e_as1, e_as2, e_as3, e_par, e_pr, e_pr2, e_it, e_i1, e_i2L, e_i2T, e_r1, e_kr1, e_for, e_kfor, e_l0, e_l1, e_l2, e_l3, e_l3c, e_l3b, e_l3r, e_w1, e_wT, e_wF, e_w2, e_fn, e_kfn, e_kfnN, e_kfn2, e_ent, e_out0, e_outN, e_outT, e_outF, e_kout, e_md0, e_md1, e_md2, e_md3, e_call, e_c1, e_c2, e_c3, e_c4, e_en, e_en0, e_es0, e_es, e_e1, e_e0, e_e2, e_e3, e_kp, e_kpL, e_kpD, e_fsS, e_fsF, e_fsA, e_fsL, e_kfr, e_le0, e_le1, e_le2, e_comp, e_lc, e_lc2, e_m0, e_m1, e_m2, e_m3, e_m3F, e_m4, e_m5, e_yes, e_wi0, e_wi1, e_star, e_star2, e_star3, e_isi, e_is1, e_is2, e_orE, e_orE1, e_orE2, e_app, e_ap1, e_ap2, e_ap3, e_ap4, e_ap5, e_ext, e_ex1, e_ex2, e_ex3, e_ex4, e_ex5, e_ch, e_ch1, e_ch2, e_ch3, e_ch4, e_ch5, List.length_cons, List.length_nil, List.map_cons, List.map_nil, Nat.reduceAdd, Nat.reduceSub, List.replicate_succ, List.replicate_zero, List.cons_append, List.nil_append, List.append_nil, List.getElem?_cons_zero, List.getElem?_cons_succ, List.set_cons_zero, List.set_cons_succ, ags, ite_true, if_true, g_add, g_sub, g_lt, g_le, g_gt, g_ge, g_eqI, g_neI, g_abs, g_gcd, g_is, g_isNot, ok0, ok1, ok2, ok3, ok4, ok5, ok6, ok7, ok8, ok9, ok10, ok11, ok12, ok13, ok14, ok15, gl, c1, c2]
  have e2 : clF gAll (consF (compF (itI (varF 0)) (gNm 1) (yesF) (chF gLe gLe (cF (.str "0")) (varF 1) (cF (.str "9"))) [1]) (nilF)) [some (.fz (.str z)), none] = some (.fz (.bool true), [some (.fz (.str z)), none]) := by
    rw [e_cl, e_cons, co]
    simp only [e_seq, e_kseq, e_kseqR, e_kseqB, e_kseqC, e_skip, e_if, e_ifT, e_ifF, e_ret, e_kret, e_kretL, e_kretD, e_kretA, e_kretA2, e_set, e_kset, e_ksetL, e_ksetD, e_ksetS, e_ksetA, e_ksetA2, e_expr, e_knx, e_cvF, e_cvS, e_cvL, e_cvD, e_cfF, e_cfL, e_cdF, e_cdL, e_ckD, e_clL, e_pkF, e_pkL, e_pkA, e_fzF, e_fzL, e_fzA, e_var, e_c, e_op, e_o1, e_o2, e_o3, e_o4, e_tst, e_kt, e_and, e_andT, e_andF, e_or, e_orT, e_orF, e_not, e_knot, e_andV, e_andVT, e_andVF, e_orV, e_orVT, e_orVF, e_notV, e_knotV, e_ifE, e_ifET, e_ifEF, e_neg, e_kneg, e_nil, e_cons, e_a1F, e_a1S, e_a1L, e_a1A, e_a2, e_fa0, e_fa1, e_fa2, e_fa3, e_tup, e_ktup, e_ktup2, e_lst, e_klst, e_klst2, e_pa0, e_pa1, e_pa2, e_pa3, e_cl, e_kcl, e_kcl2, e_dget, e_d1, e_d2, e_d2i, e_d3, e_d4, e_dput, e_p1, e_p2, e_p3, e_p4, e_p5, e_knil, e_kcons, e_k1, e_k2, e_k3, e_disp, e_k4, e_nop, e_somep, e_ksome, e_sl, e_s1, e_s2, e_s3, e_gnm, e_gtp, e_gnil, e_gcons, e_kg, e_asg, e_as1, e_as2, e_as3, e_par, e_pr, e_pr2, e_it, e_i1, e_i2L, e_i2T, e_r1, e_kr1, e_for, e_kfor, e_l0, e_l1, e_l2, e_l3, e_l3c, e_l3b, e_l3r, e_w1, e_wT, e_wF, e_w2, e_fn, e_kfn, e_kfnN, e_kfn2, e_ent, e_out0, e_outN, e_outT, e_outF, e_kout, e_md0, e_md1, e_md2, e_md3, e_call, e_c1, e_c2, e_c3, e_c4, e_en, e_en0, e_es0, e_es, e_e1, e_e0, e_e2, e_e3, e_kp, e_kpL, e_kpD, e_fsS, e_fsF, e_fsA, e_fsL, e_kfr, e_le0, e_le1, e_le2, e_comp, e_lc, e_lc2, e_m0, e_m1, e_m2, e_m3, e_m3F, e_m4, e_m5, e_yes, e_wi0, e_wi1, e_star, e_star2, e_star3, e_isi, e_is1, e_is2, e_orE, e_orE1, e_orE2, e_app, e_ap1, e_ap2, e_ap3, e_ap4, e_ap5, e_ext, e_ex1, e_ex2, e_ex3, e_ex4, e_ex5, e_ch, e_ch1, e_ch2, e_ch3, e_ch4, e_ch5, List.length_cons, List.length_nil, List.map_cons, List.map_nil, Nat.reduceAdd, Nat.reduceSub, List.replicate_succ, List.replicate_zero, List.cons_append, List.nil_append, List.append_nil, List.getElem?_cons_zero, List.getElem?_cons_succ, List.set_cons_zero, List.set_cons_succ, ags, ite_true, if_true, g_add, g_sub, g_lt, g_le, g_gt, g_ge, g_eqI, g_neI, g_abs, g_gcd, g_is, g_isNot, ok0, ok1, ok2, ok3, ok4, ok5, ok6, ok7, ok8, ok9, ok10, ok11, ok12, ok13, ok14, ok15, al]
  unfold g_are_digits_1 g_are_digits m_are_digits
  refine fnE (ρ := [some (.fz (.str z)), none]) rfl ?_ rfl
  exact ret_ok (andV_ok e1 e2)
end LW

namespace LW
open L2 PySem PySem.Spec PyProof.Rows DL RT
set_option maxHeartbeats 0
/-! ### reading -/
theorem len_minus : minus.length = 1 := by decide +kernel
theorem rmp_neg {n : Nat} : Txt.removeprefix (minus ++ natT n) minus = natT n := by
  have hx : (minus ++ natT n).cps = #[45] ++ (natT n).cps := rfl
  have sa : Builtin.Str.subAt (minus ++ natT n) minus 0 = true := by
    unfold Builtin.Str.subAt
    rw [beq_iff_eq]
    apply Array.toList_inj.mp
    rw [Array.toList_extract, len_minus]
    show (TL.tl (minus ++ natT n)).extract 0 (0 + 1) = TL.tl minus
    rw [TL.tl_append, tl_minus]
    rfl
  have l : (minus ++ natT n).length = (natT n).length + 1 := by
    rw [TL.len_tl, TL.tl_append, List.length_append, ← TL.len_tl, ← TL.len_tl, len_minus]
    omega
  unfold Txt.removeprefix
  rw [sa]
  show (if (minus ++ natT n).length - minus.length == (minus ++ natT n).length then minus ++ natT n else Builtin.Str.strSub (minus ++ natT n) minus.length (minus ++ natT n).length) = _
  rw [if_neg (by rw [beq_iff_eq, len_minus]; omega)]
  apply TL.ext_tl
  rw [TL.tl_strSub_end, TL.tl_append, tl_minus, len_minus]
  rfl
theorem rmp_pos {n : Nat} : Txt.removeprefix (natT n) minus = natT n := by
  have sa : Builtin.Str.subAt (natT n) minus 0 = false := by
    unfold Builtin.Str.subAt
    rw [beq_eq_false_iff_ne]
    intro h
    have h2 := congrArg Array.toList h
    rw [Array.toList_extract, len_minus] at h2
    have h3 : (TL.tl (natT n)).extract 0 (0 + 1) = TL.tl minus := h2
    rw [tl_natT, tl_minus] at h3
    have ne := TL.numL_ne n
    have dg := TL.numL_digits n
    cases e : TL.numL n with
    | nil => exact ne e
    | cons a b =>
      rw [e] at h3 dg
      have : a = 45 := by simpa using h3
      have := dg.head
      omega
  unfold Txt.removeprefix
  rw [sa]
  rfl
theorem rmp_itx (i : Int) : Txt.removeprefix (itx i) minus = natT i.natAbs := by
  unfold itx
  split
  · exact rmp_neg
  · exact rmp_pos
theorem read_itx {i : Int} (h : i.natAbs < 10 ^ 60) : gIntS [.str (itx i)] = some (.fz (.int i)) := by
  have l := itx_len h
  have e : gIntS [.str (itx i)] = if decide ((itx i).length ≤ 640) then (PySem.intText? (itx i)).map fun i => .fz (.int i) else none := rfl
  have nl := (nat_len h).1
  rw [TL.len_tl, tl_natT] at nl
  have t : PySem.intText? (itx i) = some i := by
    by_cases hi : i < 0
    · have hx : (itx i).cps.toList = 45 :: TL.numL i.natAbs := by
        have := tl_itx i
        rw [if_pos hi] at this
        exact this
      have := intText_neg hx (TL.numL_digits _) (TL.numL_ne _) (by omega)
      rw [TL.numL_val] at this
      rw [this]
      congr 1
      omega
    · have e2 : itx i = natT i.natAbs := if_neg hi
      rw [e2]
      have := TL.int_num (n := i.natAbs) (by omega)
      rw [show natT i.natAbs = Str.ofString (toString ((i.natAbs : Nat) : Int)) from rfl, this]
      congr 1
      omega
  rw [e, decide_eq_true (by omega), t]
  rfl
theorem read_nat {n : Nat} (h : n < 10 ^ 60) : gIntS [.str (natT n)] = some (.fz (.int (n : Int))) := by
  have := read_itx (i := (n : Int)) (by rw [Int.natAbs_natCast]; exact h)
  rw [itx_pos] at this
  exact this
theorem no_slash (i : Int) : 47 ∉ TL.tl (itx i) := by
  rw [tl_itx]
  intro h
  rcases List.mem_append.mp h with h | h
  · split at h
    · simp at h
    · simp at h
  · exact TL.numL_free (s := 47) (by omega) h
theorem par_one {q : Rat} (e : q.den = 1) : parD (ftx q) slash = .tuple [.str (itx q.num), .str Str.empty, .str Str.empty] := by
  have f : ftx q = itx q.num := if_pos e
  unfold parD
  rw [f, TL.partition_none tl_slash (no_slash _)]
theorem par_two {q : Rat} (e : ¬ q.den = 1) : parD (ftx q) slash = .tuple [.str (itx q.num), .str slash, .str (natT q.den)] := by
  have f : ftx q = itx q.num ++ slash ++ natT q.den := if_neg e
  unfold parD
  rw [f, TL.partition_app tl_slash (no_slash _)]
theorem one_nat : ("1" : Str) = natT 1 := by decide +kernel
theorem ftx_len {q : Rat} (h : S60 q) : (ftx q).length ≤ 130 := by
  have n1 := itx_len h.1
  have n2 := (nat_len h.2).1
  have ls : slash.length = 1 := by decide +kernel
  unfold ftx
  split
  · omega
  · rw [TL.len_tl, TL.tl_append, TL.tl_append, List.length_append, List.length_append, ← TL.len_tl, ← TL.len_tl, ← TL.len_tl]
    omega
abbrev tC : TF := orF (notF (tstF (callF none g_are_digits_1 (consF (rmpF (varF 1) (cF (.str "-"))) (nilF)) (nilF)))) (notF (tstF (callF none g_are_digits_1 (consF (varF 3) (nilF)) (nilF))))
section
variable {t a b d : Str} {q : Rat} {n : Nat} {x4 : Option S}
theorem r3 (hl : a.length ≤ 100) (h1 : g_are_digits_1 [.fz (.str (Txt.removeprefix a "-"))] = some (.fz (.bool true), [.fz (.str (Txt.removeprefix a "-"))])) (h2 : g_are_digits_1 [.fz (.str d)] = some (.fz (.bool true), [.fz (.str d)])) :
    tC [some (.fz (.str t)), some (.fz (.str a)), some (.fz (.str b)), some (.fz (.str d)), x4] = some (false, [some (.fz (.str t)), some (.fz (.str a)), some (.fz (.str b)), some (.fz (.str d)), x4]) := by
  have rm : rmpF (varF 1) (cF (.str "-")) [some (.fz (.str t)), some (.fz (.str a)), some (.fz (.str b)), some (.fz (.str d)), x4] = some (.fz (.str (Txt.removeprefix a "-")), [some (.fz (.str t)), some (.fz (.str a)), some (.fz (.str b)), some (.fz (.str d)), x4]) := rmp_ok rfl rfl (by omega)
  generalize Txt.removeprefix a "-" = z at *
  simp only [e_seq, e_kseq, e_kseqR, e_kseqB, e_kseqC, e_skip, e_if, e_ifT, e_ifF, e_ret, e_kret, e_kretL, e_kretD, e_kretA, e_kretA2, e_set, e_kset, e_ksetL, e_ksetD, e_ksetS, e_ksetA, e_ksetA2, e_expr, e_knx, e_cvF, e_cvS, e_cvL, e_cvD, e_cfF, e_cfL, e_cdF, e_cdL, e_ckD, e_clL, e_pkF, e_pkL, e_pkA, e_fzF, e_fzL, e_fzA, e_var, e_c, e_op, e_o1, e_o2, e_o3, e_o4, e_tst, e_kt, e_and, e_andT, e_andF, e_or, e_orT, e_orF, e_not, e_knot, e_andV, e_andVT, e_andVF, e_orV, e_orVT, e_orVF, e_notV, e_knotV, e_ifE, e_ifET, e_ifEF, e_neg, e_kneg, e_nil, e_cons, e_a1F, e_a1S, e_a1L, e_a1A, e_a2, e_fa0, e_fa1, e_fa2, e_fa3, e_tup, e_ktup, e_ktup2, e_lst, e_klst, e_klst2, e_pa0, e_pa1, e_pa2, e_pa3, e_cl, e_kcl, e_kcl2, e_dget, e_d1, e_d2, e_d2i, e_d3, e_d4, e_dput, e_p1, e_p2, e_p3, e_p4, e_p5, e_knil, e_kcons, e_k1, e_k2, e_k3, e_disp, e_k4, e_nop, e_somep, e_ksome, e_sl, e_s1, e_s2, e_s3, e_gnm, e_gtp, e_gnil, e_gcons, e_kg, e_asg, e_as1, e_as2, e_as3, e_par, e_pr, e_pr2, e_it, e_i1, e_i2L, e_i2T, e_r1, e_kr1, e_for, e_kfor, e_l0, e_l1, e_l2, e_l3, e_l3c, e_l3b, e_l3r, e_w1, e_wT, e_wF, e_w2, e_fn, e_kfn, e_kfnN, e_kfn2, e_ent, e_out0, e_outN, e_outT, e_outF, e_kout, e_md0, e_md1, e_md2, e_md3, e_call, e_c1, e_c2, e_c3, e_c4, e_en, e_en0, e_es0, e_es, e_e1, e_e0, e_e2, e_e3, e_kp, e_kpL, e_kpD, e_fsS, e_fsF, e_fsA, e_fsL, e_kfr, e_le0, e_le1, e_le2, e_comp, e_lc, e_lc2, e_m0, e_m1, e_m2, e_m3, e_m3F, e_m4, e_m5, e_yes, e_wi0, e_wi1, e_star, e_star2, e_star3, e_isi, e_is1, e_is2, e_orE, e_orE1, e_orE2, e_app, e_ap1, e_ap2, e_ap3, e_ap4, e_ap5, e_ext, e_ex1, e_ex2, e_ex3, e_ex4, e_ex5, e_ch, e_ch1, e_ch2, e_ch3, e_ch4, e_ch5, List.length_cons, List.length_nil, List.map_cons, List.map_nil, Nat.reduceAdd, Nat.reduceSub, List.replicate_succ, List.replicate_zero, List.cons_append, List.nil_append, List.append_nil, List.getElem?_cons_zero, List.getElem?_cons_succ, List.set_cons_zero, List.set_cons_succ, ags, ite_true, if_true, g_add, g_sub, g_lt, g_le, g_gt, g_ge, g_eqI, g_neI, g_abs, g_gcd, g_is, g_isNot, ok0, ok1, ok2, ok3, ok4, ok5, ok6, ok7, ok8, ok9, ok10, ok11, ok12, ok13, ok14, ok15, rm, h1, h2, Bool.not_true]
theorem r4 {i j : Int} (h1 : gIntS [.str a] = some (.fz (.int i))) (h2 : gIntS [.str d] = some (.fz (.int j))) :
    setF 4 (tupF (consF (clF gIntS (consF (varF 1) (nilF))) (consF (clF gIntS (consF (varF 3) (nilF))) (nilF)))) [some (.fz (.str t)), some (.fz (.str a)), some (.fz (.str b)), some (.fz (.str d)), x4] = some (.nx [some (.fz (.str t)), some (.fz (.str a)), some (.fz (.str b)), some (.fz (.str d)), some (.fz (.tuple [.int i, .int j]))]) := by
  simp only [e_seq, e_kseq, e_kseqR, e_kseqB, e_kseqC, e_skip, e_if, e_ifT, e_ifF, e_ret, e_kret, e_kretL, e_kretD, e_kretA, e_kretA2, e_set, e_kset, e_ksetL, e_ksetD, e_ksetS, e_ksetA, e_ksetA2, e_expr, e_knx, e_cvF, e_cvS, e_cvL, e_cvD, e_cfF, e_cfL, e_cdF, e_cdL, e_ckD, e_clL, e_pkF, e_pkL, e_pkA, e_fzF, e_fzL, e_fzA, e_var, e_c, e_op, e_o1, e_o2, e_o3, e_o4, e_tst, e_kt, e_and, e_andT, e_andF, e_or, e_orT, e_orF, e_not, e_knot, e_andV, e_andVT, e_andVF, e_orV, e_orVT, e_orVF, e_notV, e_knotV, e_ifE, e_ifET, e_ifEF, e_neg, e_kneg, e_nil, e_cons, e_a1F, e_a1S, e_a1L, e_a1A, e_a2, e_fa0, e_fa1, e_fa2, e_fa3, e_tup, e_ktup, e_ktup2, e_lst, e_klst, e_klst2, e_pa0, e_pa1, e_pa2, e_pa3, e_cl, e_kcl, e_kcl2, e_dget, e_d1, e_d2, e_d2i, e_d3, e_d4, e_dput, e_p1, e_p2, e_p3, e_p4, e_p5, e_knil, e_kcons, e_k1, e_k2, e_k3, e_disp, e_k4, e_nop, e_somep, e_ksome, e_sl, e_s1, e_s2, e_s3, e_gnm, e_gtp, e_gnil, e_gcons, e_kg, e_asg, e_as1, e_as2, e_as3, e_par, e_pr, e_pr2, e_it, e_i1, e_i2L, e_i2T, e_r1, e_kr1, e_for, e_kfor, e_l0, e_l1, e_l2, e_l3, e_l3c, e_l3b, e_l3r, e_w1, e_wT, e_wF, e_w2, e_fn, e_kfn, e_kfnN, e_kfn2, e_ent, e_out0, e_outN, e_outT, e_outF, e_kout, e_md0, e_md1, e_md2, e_md3, e_call, e_c1, e_c2, e_c3, e_c4, e_en, e_en0, e_es0, e_es, e_e1, e_e0, e_e2, e_e3, e_kp, e_kpL, e_kpD, e_fsS, e_fsF, e_fsA, e_fsL, e_kfr, e_le0, e_le1, e_le2, e_comp, e_lc, e_lc2, e_m0, e_m1, e_m2, e_m3, e_m3F, e_m4, e_m5, e_yes, e_wi0, e_wi1, e_star, e_star2, e_star3, e_isi, e_is1, e_is2, e_orE, e_orE1, e_orE2, e_app, e_ap1, e_ap2, e_ap3, e_ap4, e_ap5, e_ext, e_ex1, e_ex2, e_ex3, e_ex4, e_ex5, e_ch, e_ch1, e_ch2, e_ch3, e_ch4, e_ch5, List.length_cons, List.length_nil, List.map_cons, List.map_nil, Nat.reduceAdd, Nat.reduceSub, List.replicate_succ, List.replicate_zero, List.cons_append, List.nil_append, List.append_nil, List.getElem?_cons_zero, List.getElem?_cons_succ, List.set_cons_zero, List.set_cons_succ, ags, ite_true, if_true, g_add, g_sub, g_lt, g_le, g_gt, g_ge, g_eqI, g_neI, g_abs, g_gcd, g_is, g_isNot, ok0, ok1, ok2, ok3, ok4, ok5, ok6, ok7, ok8, ok9, ok10, ok11, ok12, ok13, ok14, ok15, h1, h2]
theorem r5 {v : PyData} (h1 : g_is_fraction_1 [.fz v] = some (.fz (.bool true), [.fz v])) (h2 : g_fraction_text_1 [.fz v] = some (.fz (.str t), [.fz v])) :
    andF (tstF (callF none g_is_fraction_1 (consF (varF 4) (nilF)) (nilF))) (tstF (opF gEq (callF none g_fraction_text_1 (consF (varF 4) (nilF)) (nilF)) (varF 0))) [some (.fz (.str t)), some (.fz (.str a)), some (.fz (.str b)), some (.fz (.str d)), some (.fz v)] = some (true, [some (.fz (.str t)), some (.fz (.str a)), some (.fz (.str b)), some (.fz (.str d)), some (.fz v)]) := by
  simp only [e_seq, e_kseq, e_kseqR, e_kseqB, e_kseqC, e_skip, e_if, e_ifT, e_ifF, e_ret, e_kret, e_kretL, e_kretD, e_kretA, e_kretA2, e_set, e_kset, e_ksetL, e_ksetD, e_ksetS, e_ksetA, e_ksetA2, e_expr, e_knx, e_cvF, e_cvS, e_cvL, e_cvD, e_cfF, e_cfL, e_cdF, e_cdL, e_ckD, e_clL, e_pkF, e_pkL, e_pkA, e_fzF, e_fzL, e_fzA, e_var, e_c, e_op, e_o1, e_o2, e_o3, e_o4, e_tst, e_kt, e_and, e_andT, e_andF, e_or, e_orT, e_orF, e_not, e_knot, e_andV, e_andVT, e_andVF, e_orV, e_orVT, e_orVF, e_notV, e_knotV, e_ifE, e_ifET, e_ifEF, e_neg, e_kneg, e_nil, e_cons, e_a1F, e_a1S, e_a1L, e_a1A, e_a2, e_fa0, e_fa1, e_fa2, e_fa3, e_tup, e_ktup, e_ktup2, e_lst, e_klst, e_klst2, e_pa0, e_pa1, e_pa2, e_pa3, e_cl, e_kcl, e_kcl2, e_dget, e_d1, e_d2, e_d2i, e_d3, e_d4, e_dput, e_p1, e_p2, e_p3, e_p4, e_p5, e_knil, e_kcons, e_k1, e_k2, e_k3, e_disp, e_k4, e_nop, e_somep, e_ksome, e_sl, e_s1, e_s2, e_s3, e_gnm, e_gtp, e_gnil, e_gcons, e_kg, e_asg, e_as1, e_as2, e_as3, e_par, e_pr, e_pr2, e_it, e_i1, e_i2L, e_i2T, e_r1, e_kr1, e_for, e_kfor, e_l0, e_l1, e_l2, e_l3, e_l3c, e_l3b, e_l3r, e_w1, e_wT, e_wF, e_w2, e_fn, e_kfn, e_kfnN, e_kfn2, e_ent, e_out0, e_outN, e_outT, e_outF, e_kout, e_md0, e_md1, e_md2, e_md3, e_call, e_c1, e_c2, e_c3, e_c4, e_en, e_en0, e_es0, e_es, e_e1, e_e0, e_e2, e_e3, e_kp, e_kpL, e_kpD, e_fsS, e_fsF, e_fsA, e_fsL, e_kfr, e_le0, e_le1, e_le2, e_comp, e_lc, e_lc2, e_m0, e_m1, e_m2, e_m3, e_m3F, e_m4, e_m5, e_yes, e_wi0, e_wi1, e_star, e_star2, e_star3, e_isi, e_is1, e_is2, e_orE, e_orE1, e_orE2, e_app, e_ap1, e_ap2, e_ap3, e_ap4, e_ap5, e_ext, e_ex1, e_ex2, e_ex3, e_ex4, e_ex5, e_ch, e_ch1, e_ch2, e_ch3, e_ch4, e_ch5, List.length_cons, List.length_nil, List.map_cons, List.map_nil, Nat.reduceAdd, Nat.reduceSub, List.replicate_succ, List.replicate_zero, List.cons_append, List.nil_append, List.append_nil, List.getElem?_cons_zero, List.getElem?_cons_succ, List.set_cons_zero, List.set_cons_succ, ags, ite_true, if_true, g_add, g_sub, g_lt, g_le, g_gt, g_ge, g_eqI, g_neI, g_abs, g_gcd, g_is, g_isNot, ok0, ok1, ok2, ok3, ok4, ok5, ok6, ok7, ok8, ok9, ok10, ok11, ok12, ok13, ok14, ok15, h1, h2, g_eqS, decide_true]
end
theorem fon_ok {q : Rat} (h : S60 q) : g_fraction_or_none_1 [.fz (.str (ftx q))] = some (.fz (fD q), [.fz (.str (ftx q))]) := by
  have fl := ftx_len h
  have il := itx_len h.1
  have tx := ftext_ok h
  have isf := isfrac_ok q
  have rd1 := read_itx h.1
  have dg1 := digits_ok h.1
  have rm := rmp_itx q.num
  have pt : ∀ {x1 x2 x3 x4 : Option S}, ptnF (varF 0) (cF (.str "/")) [some (.fz (.str (ftx q))), x1, x2, x3, x4] = some (.fz (parD (ftx q) slash), [some (.fz (.str (ftx q))), x1, x2, x3, x4]) := ptn_ok rfl rfl (by omega) (by decide +kernel)
  unfold g_fraction_or_none_1 g_fraction_or_none m_fraction_or_none
  have main : ∀ {b d : Str}, gIntS [.str d] = some (.fz (.int (q.den : Int))) → g_are_digits_1 [.fz (.str d)] = some (.fz (.bool true), [.fz (.str d)]) →
      seqF (ifSF tC (retF (cF .none)) (skipF)) (seqF (setF 4 (tupF (consF (clF gIntS (consF (varF 1) (nilF))) (consF (clF gIntS (consF (varF 3) (nilF))) (nilF)))))
        (seqF (ifSF (andF (tstF (callF none g_is_fraction_1 (consF (varF 4) (nilF)) (nilF))) (tstF (opF gEq (callF none g_fraction_text_1 (consF (varF 4) (nilF)) (nilF)) (varF 0)))) (retF (varF 4)) (skipF)) (retF (cF .none))))
        [some (.fz (.str (ftx q))), some (.fz (.str (itx q.num))), some (.fz (.str b)), some (.fz (.str d)), none] = some (.rt (.fz (fD q)) [some (.fz (.str (ftx q))), some (.fz (.str (itx q.num))), some (.fz (.str b)), some (.fz (.str d)), some (.fz (fD q))]) := by
    intro b d hd1 hd2
    exact seq_ok (if_no (r3 (by omega) (by rw [show (("-" : Str)) = minus from rfl, rm]; exact dg1) hd2)) (seq_ok (r4 rd1 hd1) (seq_rt (if_yes (r5 isf tx) (ret_ok rfl))))
  by_cases e : q.den = 1
  · have one : (natT 1) = natT q.den := by rw [e]
    have s1 : asgF (ptnF (varF 0) (cF (.str "/"))) (gTp (gsCons (gNm 1) (gsCons (gNm 2) (gsCons (gNm 3) (gsNil))))) [some (.fz (.str (ftx q))), none, none, none, none] = some (.nx [some (.fz (.str (ftx q))), some (.fz (.str (itx q.num))), some (.fz (.str Str.empty)), some (.fz (.str Str.empty)), none]) := by
      rw [e_asg, pt, par_one e]
      rfl
    have s2 : ifSF (tstF (opF gEq (varF 2) (cF (.str "")))) (setF 3 (cF (.str "1"))) (skipF) [some (.fz (.str (ftx q))), some (.fz (.str (itx q.num))), some (.fz (.str Str.empty)), some (.fz (.str Str.empty)), none] = some (.nx [some (.fz (.str (ftx q))), some (.fz (.str (itx q.num))), some (.fz (.str Str.empty)), some (.fz (.str ("1" : Str))), none]) := by
      have t : tstF (opF gEq (varF 2) (cF (.str ""))) [some (.fz (.str (ftx q))), some (.fz (.str (itx q.num))), some (.fz (.str Str.empty)), some (.fz (.str Str.empty)), none] = some (true, [some (.fz (.str (ftx q))), some (.fz (.str (itx q.num))), some (.fz (.str Str.empty)), some (.fz (.str Str.empty)), none]) := by
        have d : decide (Str.empty = ("" : Str)) = true := by decide +kernel
        generalize ftx q = T at *
        simp only [e_seq, e_kseq, e_kseqR, e_kseqB, e_kseqC, e_skip, e_if, e_ifT, e_ifF, e_ret, e_kret, e_kretL, e_kretD, e_kretA, e_kretA2, e_set, e_kset, e_ksetL, e_ksetD, e_ksetS, e_ksetA, e_ksetA2, e_expr, e_knx, e_cvF, e_cvS, e_cvL, e_cvD, e_cfF, e_cfL, e_cdF, e_cdL, e_ckD, e_clL, e_pkF, e_pkL, e_pkA, e_fzF, e_fzL, e_fzA, e_var, e_c, e_op, e_o1, e_o2, e_o3, e_o4, e_tst, e_kt, e_and, e_andT, e_andF, e_or, e_orT, e_orF, e_not, e_knot, e_andV, e_andVT, e_andVF, e_orV, e_orVT, e_orVF, e_notV, e_knotV, e_ifE, e_ifET, e_ifEF, e_neg, e_kneg, e_nil, e_cons, e_a1F, e_a1S, e_a1L, e_a1A, e_a2, e_fa0, e_fa1, e_fa2, e_fa3, e_tup, e_ktup, e_ktup2, e_lst, e_klst, e_klst2, e_pa0, e_pa1, e_pa2, e_pa3, e_cl, e_kcl, e_kcl2, e_dget, e_d1, e_d2, e_d2i, e_d3, e_d4, e_dput, e_p1, e_p2, e_p3, e_p4, e_p5, e_knil, e_kcons, e_k1, e_k2, e_k3, e_disp, e_k4, e_nop, e_somep, e_ksome, e_sl, e_s1, e_s2, e_s3, e_gnm, e_gtp, e_gnil, e_gcons, e_kg, e_asg, e_as1, e_as2, e_as3, e_par, e_pr, e_pr2, e_it, e_i1, e_i2L, e_i2T, e_r1, e_kr1, e_for, e_kfor, e_l0, e_l1, e_l2, e_l3, e_l3c, e_l3b, e_l3r, e_w1, e_wT, e_wF, e_w2, e_fn, e_kfn, e_kfnN, e_kfn2, e_ent, e_out0, e_outN, e_outT, e_outF, e_kout, e_md0, e_md1, e_md2, e_md3, e_call, e_c1, e_c2, e_c3, e_c4, e_en, e_en0, e_es0, e_es, e_e1, e_e0, e_e2, e_e3, e_kp, e_kpL, e_kpD, e_fsS, e_fsF, e_fsA, e_fsL, e_kfr, e_le0, e_le1, e_le2, e_comp, e_lc, e_lc2, e_m0, e_m1, e_m2, e_m3, e_m3F, e_m4, e_m5, e_yes, e_wi0, e_wi1, e_star, e_star2, e_star3, e_isi, e_is1, e_is2, e_orE, e_orE1, e_orE2, e_app, e_ap1, e_ap2, e_ap3, e_ap4, e_ap5, e_ext, e_ex1, e_ex2, e_ex3, e_ex4, e_ex5, e_ch, e_ch1, e_ch2, e_ch3, e_ch4, e_ch5, List.length_cons, List.length_nil, List.map_cons, List.map_nil, Nat.reduceAdd, Nat.reduceSub, List.replicate_succ, List.replicate_zero, List.cons_append, List.nil_append, List.append_nil, List.getElem?_cons_zero, List.getElem?_cons_succ, List.set_cons_zero, List.set_cons_succ, ags, ite_true, if_true, g_add, g_sub, g_lt, g_le, g_gt, g_ge, g_eqI, g_neI, g_abs, g_gcd, g_is, g_isNot, ok0, ok1, ok2, ok3, ok4, ok5, ok6, ok7, ok8, ok9, ok10, ok11, ok12, ok13, ok14, ok15, g_eqS, d]
      exact if_yes t rfl
    refine fnE rfl (seq_ok s1 (seq_ok s2 (main ?_ ?_))) rfl
    · rw [one_nat, one]; exact read_nat h.2
    · rw [one_nat, one]; exact digits_ok h.2
  · have s1 : asgF (ptnF (varF 0) (cF (.str "/"))) (gTp (gsCons (gNm 1) (gsCons (gNm 2) (gsCons (gNm 3) (gsNil))))) [some (.fz (.str (ftx q))), none, none, none, none] = some (.nx [some (.fz (.str (ftx q))), some (.fz (.str (itx q.num))), some (.fz (.str slash)), some (.fz (.str (natT q.den))), none]) := by
      rw [e_asg, pt, par_two e]
      rfl
    have t : tstF (opF gEq (varF 2) (cF (.str ""))) [some (.fz (.str (ftx q))), some (.fz (.str (itx q.num))), some (.fz (.str slash)), some (.fz (.str (natT q.den))), none] = some (false, [some (.fz (.str (ftx q))), some (.fz (.str (itx q.num))), some (.fz (.str slash)), some (.fz (.str (natT q.den))), none]) := by
      have d : decide (slash = ("" : Str)) = false := by decide +kernel
      generalize ftx q = T at *
      generalize slash = sl at *
      simp only [e_seq, e_kseq, e_kseqR, e_kseqB, e_kseqC, e_skip, e_if, e_ifT, e_ifF, e_ret, e_kret, e_kretL, e_kretD, e_kretA, e_kretA2, e_set, e_kset, e_ksetL, e_ksetD, e_ksetS, e_ksetA, e_ksetA2, e_expr, e_knx, e_cvF, e_cvS, e_cvL, e_cvD, e_cfF, e_cfL, e_cdF, e_cdL, e_ckD, e_clL, e_pkF, e_pkL, e_pkA, e_fzF, e_fzL, e_fzA, e_var, e_c, e_op, e_o1, e_o2, e_o3, e_o4, e_tst, e_kt, e_and, e_andT, e_andF, e_or, e_orT, e_orF, e_not, e_knot, e_andV, e_andVT, e_andVF, e_orV, e_orVT, e_orVF, e_notV, e_knotV, e_ifE, e_ifET, e_ifEF, e_neg, e_kneg, e_nil, e_cons, e_a1F, e_a1S, e_a1L, e_a1A, e_a2, e_fa0, e_fa1, e_fa2, e_fa3, e_tup, e_ktup, e_ktup2, e_lst, e_klst, e_klst2, e_pa0, e_pa1, e_pa2, e_pa3, e_cl, e_kcl, e_kcl2, e_dget, e_d1, e_d2, e_d2i, e_d3, e_d4, e_dput, e_p1, e_p2, e_p3, e_p4, e_p5, e_knil, e_kcons, e_k1, e_k2, e_k3, e_disp, e_k4, e_nop, e_somep, e_ksome, e_sl, e_s1, e_s2, e_s3, e_gnm, e_gtp, e_gnil, e_gcons, e_kg, e_asg, e_as1, e_as2, e_as3, e_par, e_pr, e_pr2, e_it, e_i1, e_i2L, e_i2T, e_r1, e_kr1, e_for, e_kfor, e_l0, e_l1, e_l2, e_l3, e_l3c, e_l3b, e_l3r, e_w1, e_wT, e_wF, e_w2, e_fn, e_kfn, e_kfnN, e_kfn2, e_ent, e_out0, e_outN, e_outT, e_outF, e_kout, e_md0, e_md1, e_md2, e_md3, e_call, e_c1, e_c2, e_c3, e_c4, e_en, e_en0, e_es0, e_es, e_e1, e_e0, e_e2, e_e3, e_kp, e_kpL, e_kpD, e_fsS, e_fsF, e_fsA, e_fsL, e_kfr, e_le0, e_le1, e_le2, e_comp, e_lc, e_lc2, e_m0, e_m1, e_m2, e_m3, e_m3F, e_m4, e_m5, e_yes, e_wi0, e_wi1, e_star, e_star2, e_star3, e_isi, e_is1, e_is2, e_orE, e_orE1, e_orE2, e_app, e_ap1, e_ap2, e_ap3, e_ap4, e_ap5, e_ext, e_ex1, e_ex2, e_ex3, e_ex4, e_ex5, e_ch, e_ch1, e_ch2, e_ch3, e_ch4, e_ch5, List.length_cons, List.length_nil, List.map_cons, List.map_nil, Nat.reduceAdd, Nat.reduceSub, List.replicate_succ, List.replicate_zero, List.cons_append, List.nil_append, List.append_nil, List.getElem?_cons_zero, List.getElem?_cons_succ, List.set_cons_zero, List.set_cons_succ, ags, ite_true, if_true, g_add, g_sub, g_lt, g_le, g_gt, g_ge, g_eqI, g_neI, g_abs, g_gcd, g_is, g_isNot, ok0, ok1, ok2, ok3, ok4, ok5, ok6, ok7, ok8, ok9, ok10, ok11, ok12, ok13, ok14, ok15, g_eqS, d]
    exact fnE rfl (seq_ok s1 (seq_ok (if_no t) (main (read_nat h.2) (digits_ok h.2)))) rfl
theorem read_ok {q : Rat} (h : S60 q) : g_fraction_read_1 [.fz (.str (ftx q))] = some (.fz (fD q), [.fz (.str (ftx q))]) := by
  have f := fon_ok h
  generalize ftx q = T at *
  have s1 : setF 1 (callF none g_fraction_or_none_1 (consF (varF 0) (nilF)) (nilF)) [some (.fz (.str T)), none] = some (.nx [some (.fz (.str T)), some (.fz (fD q))]) := by simp only [e_seq, e_kseq, e_kseqR, e_kseqB, e_kseqC, e_skip, e_if, e_ifT, e_ifF, e_ret, e_kret, e_kretL, e_kretD, e_kretA, e_kretA2, e_set, e_kset, e_ksetL, e_ksetD, e_ksetS, e_ksetA, e_ksetA2, e_expr, e_knx, e_cvF, e_cvS, e_cvL, e_cvD, e_cfF, e_cfL, e_cdF, e_cdL, e_ckD, e_clL, e_pkF, e_pkL, e_pkA, e_fzF, e_fzL, e_fzA, e_var, e_c, e_op, e_o1, e_o2, e_o3, e_o4, e_tst, e_kt, e_and, e_andT, e_andF, e_or, e_orT, e_orF, e_not, e_knot, e_andV, e_andVT, e_andVF, e_orV, e_orVT, e_orVF, e_notV, e_knotV, e_ifE, e_ifET, e_ifEF, e_neg, e_kneg, e_nil, e_cons, e_a1F, e_a1S, e_a1L, e_a1A, e_a2, e_fa0, e_fa1, e_fa2, e_fa3, e_tup, e_ktup, e_ktup2, e_lst, e_klst, e_klst2, e_pa0, e_pa1, e_pa2, e_pa3, e_cl, e_kcl, e_kcl2, e_dget, e_d1, e_d2, e_d2i, e_d3, e_d4, e_dput, e_p1, e_p2, e_p3, e_p4, e_p5, e_knil, e_kcons, e_k1, e_k2, e_k3, e_disp, e_k4, e_nop, e_somep, e_ksome, e_sl, e_s1, e_s2, e_s3, e_gnm, e_gtp, e_gnil, e_gcons, e_kg, e_asg, e_as1, e_as2, e_as3, e_par, e_pr, e_pr2, e_it, e_i1, e_i2L, e_i2T, e_r1, e_kr1, e_for, e_kfor, e_l0, e_l1, e_l2, e_l3, e_l3c, e_l3b, e_l3r, e_w1, e_wT, e_wF, e_w2, e_fn, e_kfn, e_kfnN, e_kfn2, e_ent, e_out0, e_outN, e_outT, e_outF, e_kout, e_md0, e_md1, e_md2, e_md3, e_call, e_c1, e_c2, e_c3, e_c4, e_en, e_en0, e_es0, e_es, e_e1, e_e0, e_e2, e_e3, e_kp, e_kpL, e_kpD, e_fsS, e_fsF, e_fsA, e_fsL, e_kfr, e_le0, e_le1, e_le2, e_comp, e_lc, e_lc2, e_m0, e_m1, e_m2, e_m3, e_m3F, e_m4, e_m5, e_yes, e_wi0, e_wi1, e_star, e_star2, e_star3, e_isi, e_is1, e_is2, e_orE, e_orE1, e_orE2, e_app, e_ap1, e_ap2, e_ap3, e_ap4, e_ap5, e_ext, e_ex1, e_ex2, e_ex3, e_ex4, e_ex5, e_ch, e_ch1, e_ch2, e_ch3, e_ch4, e_ch5, List.length_cons, List.length_nil, List.map_cons, List.map_nil, Nat.reduceAdd, Nat.reduceSub, List.replicate_succ, List.replicate_zero, List.cons_append, List.nil_append, List.append_nil, List.getElem?_cons_zero, List.getElem?_cons_succ, List.set_cons_zero, List.set_cons_succ, ags, ite_true, if_true, g_add, g_sub, g_lt, g_le, g_gt, g_ge, g_eqI, g_neI, g_abs, g_gcd, g_is, g_isNot, ok0, ok1, ok2, ok3, ok4, ok5, ok6, ok7, ok8, ok9, ok10, ok11, ok12, ok13, ok14, ok15, f]
  have t : tstF (opF gIs (varF 1) (cF .none)) [some (.fz (.str T)), some (.fz (fD q))] = some (false, [some (.fz (.str T)), some (.fz (fD q))]) := by simp only [e_seq, e_kseq, e_kseqR, e_kseqB, e_kseqC, e_skip, e_if, e_ifT, e_ifF, e_ret, e_kret, e_kretL, e_kretD, e_kretA, e_kretA2, e_set, e_kset, e_ksetL, e_ksetD, e_ksetS, e_ksetA, e_ksetA2, e_expr, e_knx, e_cvF, e_cvS, e_cvL, e_cvD, e_cfF, e_cfL, e_cdF, e_cdL, e_ckD, e_clL, e_pkF, e_pkL, e_pkA, e_fzF, e_fzL, e_fzA, e_var, e_c, e_op, e_o1, e_o2, e_o3, e_o4, e_tst, e_kt, e_and, e_andT, e_andF, e_or, e_orT, e_orF, e_not, e_knot, e_andV, e_andVT, e_andVF, e_orV, e_orVT, e_orVF, e_notV, e_knotV, e_ifE, e_ifET, e_ifEF, e_neg, e_kneg, e_nil, e_cons, e_a1F, e_a1S, e_a1L, e_a1A, e_a2, e_fa0, e_fa1, e_fa2, e_fa3, e_tup, e_ktup, e_ktup2, e_lst, e_klst, e_klst2, e_pa0, e_pa1, e_pa2, e_pa3, e_cl, e_kcl, e_kcl2, e_dget, e_d1, e_d2, e_d2i, e_d3, e_d4, e_dput, e_p1, e_p2, e_p3, e_p4, e_p5, e_knil, e_kcons, e_k1, e_k2, e_k3, e_disp, e_k4, e_nop, e_somep, e_ksome, e_sl, e_s1, e_s2, e_s3, e_gnm, e_gtp, e_gnil, e_gcons, e_kg, e_asg, e_as1, e_as2, e_as3, e_par, e_pr, e_pr2, e_it, e_i1, e_i2L, e_i2T, e_r1, e_kr1, e_for, e_kfor, e_l0, e_l1, e_l2, e_l3, e_l3c, e_l3b, e_l3r, e_w1, e_wT, e_wF, e_w2, e_fn, e_kfn, e_kfnN, e_kfn2, e_ent, e_out0, e_outN, e_outT, e_outF, e_kout, e_md0, e_md1, e_md2, e_md3, e_call, e_c1, e_c2, e_c3, e_c4, e_en, e_en0, e_es0, e_es, e_e1, e_e0, e_e2, e_e3, e_kp, e_kpL, e_kpD, e_fsS, e_fsF, e_fsA, e_fsL, e_kfr, e_le0, e_le1, e_le2, e_comp, e_lc, e_lc2, e_m0, e_m1, e_m2, e_m3, e_m3F, e_m4, e_m5, e_yes, e_wi0, e_wi1, e_star, e_star2, e_star3, e_isi, e_is1, e_is2, e_orE, e_orE1, e_orE2, e_app, e_ap1, e_ap2, e_ap3, e_ap4, e_ap5, e_ext, e_ex1, e_ex2, e_ex3, e_ex4, e_ex5, e_ch, e_ch1, e_ch2, e_ch3, e_ch4, e_ch5, List.length_cons, List.length_nil, List.map_cons, List.map_nil, Nat.reduceAdd, Nat.reduceSub, List.replicate_succ, List.replicate_zero, List.cons_append, List.nil_append, List.append_nil, List.getElem?_cons_zero, List.getElem?_cons_succ, List.set_cons_zero, List.set_cons_succ, ags, ite_true, if_true, g_add, g_sub, g_lt, g_le, g_gt, g_ge, g_eqI, g_neI, g_abs, g_gcd, g_is, g_isNot, ok0, ok1, ok2, ok3, ok4, ok5, ok6, ok7, ok8, ok9, ok10, ok11, ok12, ok13, ok14, ok15, -g_is, g_isf]
  unfold g_fraction_read_1 g_fraction_read m_fraction_read
  exact fnE rfl (seq_ok s1 (seq_ok (if_no t) (ret_ok (f := varF 1) rfl))) rfl
theorem ftx_inj {p q : Rat} (hp : S60 p) (hq : S60 q) : ftx p = ftx q ↔ p = q := by
  constructor
  · intro e
    have a := read_ok hp
    rw [e, read_ok hq] at a
    have b : fD q = fD p := by
      have := congrArg (fun z : Option (S × List S) => z.map fun r => r.1) a
      simpa using this
    have : p.num = q.num ∧ (p.den : Int) = (q.den : Int) := by
      unfold fD at b
      simp only [PyData.tuple.injEq, List.cons.injEq, PyData.int.injEq, and_true] at b
      exact ⟨b.1.symm, b.2.symm⟩
    exact rat_ext.mp this
  · intro e; subst e; rfl
end LW

namespace LW
open L2 PySem PySem.Spec PyProof.Rows DL RT
set_option maxHeartbeats 0
abbrev F0 (g : FF) (R : PyData) : Prop := g [] = some (.fz R, [])
abbrev F1 (g : FF) (A R : PyData) : Prop := g [.fz A] = some (.fz R, [.fz A])
abbrev F2 (g : FF) (A B R : PyData) : Prop := g [.fz A, .fz B] = some (.fz R, [.fz A, .fz B])
abbrev F3 (g : FF) (A B C R : PyData) : Prop := g [.fz A, .fz B, .fz C] = some (.fz R, [.fz A, .fz B, .fz C])
abbrev gS : FF := g_fraction_sum_s
abbrev gP : FF := g_fraction_product_s
abbrev s5 (A B C T P : PyData) (x : Option S) : PSt := [some (.fz A), some (.fz B), some (.fz C), some (.fz T), some (.fz P), x]
section
variable {A B C T P : PyData} {x : Option S}
abbrev Z : PyData := .tuple [.int 0, .int 1]
abbrev O1 : PyData := .tuple [.int 1, .int 1]
abbrev M1 : PyData := .tuple [.int (-1), .int 1]
theorem u1 (h1 : F2 g_fraction_sum_s A B T) (h2 : F2 g_fraction_product_s A B P) : parF 3 4 (consF (callF none g_fraction_sum_s (consF (varF 0) (consF (varF 1) (nilF))) (nilF)) (consF (callF none g_fraction_product_s (consF (varF 0) (consF (varF 1) (nilF))) (nilF)) (nilF))) [some (.fz A), some (.fz B), some (.fz C), none, none, none] = some (.nx [some (.fz A), some (.fz B), some (.fz C), some (.fz T), some (.fz P), none]) := by
  simp only [e_seq, e_kseq, e_kseqR, e_kseqB, e_kseqC, e_skip, e_if, e_ifT, e_ifF, e_ret, e_kret, e_kretL, e_kretD, e_kretA, e_kretA2, e_set, e_kset, e_ksetL, e_ksetD, e_ksetS, e_ksetA, e_ksetA2, e_expr, e_knx, e_cvF, e_cvS, e_cvL, e_cvD, e_cfF, e_cfL, e_cdF, e_cdL, e_ckD, e_clL, e_pkF, e_pkL, e_pkA, e_fzF, e_fzL, e_fzA, e_var, e_c, e_op, e_o1, e_o2, e_o3, e_o4, e_tst, e_kt, e_and, e_andT, e_andF, e_or, e_orT, e_orF, e_not, e_knot, e_andV, e_andVT, e_andVF, e_orV, e_orVT, e_orVF, e_notV, e_knotV, e_ifE, e_ifET, e_ifEF, e_neg, e_kneg, e_nil, e_cons, e_a1F, e_a1S, e_a1L, e_a1A, e_a2, e_fa0, e_fa1, e_fa2, e_fa3, e_tup, e_ktup, e_ktup2, e_lst, e_klst, e_klst2, e_pa0, e_pa1, e_pa2, e_pa3, e_cl, e_kcl, e_kcl2, e_dget, e_d1, e_d2, e_d2i, e_d3, e_d4, e_dput, e_p1, e_p2, e_p3, e_p4, e_p5, e_knil, e_kcons, e_k1, e_k2, e_k3, e_disp, e_k4, e_nop, e_somep, e_ksome, e_sl, e_s1, e_s2, e_s3, e_gnm, e_gtp, e_gnil, e_gcons, e_kg, e_asg, e_as1, e_as2, e_as3, e_par, e_pr, e_pr2, e_it, e_i1, e_i2L, e_i2T, e_r1, e_kr1, e_for, e_kfor, e_l0, e_l1, e_l2, e_l3, e_l3c, e_l3b, e_l3r, e_w1, e_wT, e_wF, e_w2, e_fn, e_kfn, e_kfnN, e_kfn2, e_ent, e_out0, e_outN, e_outT, e_outF, e_kout, e_md0, e_md1, e_md2, e_md3, e_call, e_c1, e_c2, e_c3, e_c4, e_en, e_en0, e_es0, e_es, e_e1, e_e0, e_e2, e_e3, e_kp, e_kpL, e_kpD, e_fsS, e_fsF, e_fsA, e_fsL, e_kfr, e_le0, e_le1, e_le2, e_comp, e_lc, e_lc2, e_m0, e_m1, e_m2, e_m3, e_m3F, e_m4, e_m5, e_yes, e_wi0, e_wi1, e_star, e_star2, e_star3, e_isi, e_is1, e_is2, e_orE, e_orE1, e_orE2, e_app, e_ap1, e_ap2, e_ap3, e_ap4, e_ap5, e_ext, e_ex1, e_ex2, e_ex3, e_ex4, e_ex5, e_ch, e_ch1, e_ch2, e_ch3, e_ch4, e_ch5, List.length_cons, List.length_nil, List.map_cons, List.map_nil, Nat.reduceAdd, Nat.reduceSub, List.replicate_succ, List.replicate_zero, List.cons_append, List.nil_append, List.append_nil, List.getElem?_cons_zero, List.getElem?_cons_succ, List.set_cons_zero, List.set_cons_succ, ags, ite_true, if_true, g_add, g_sub, g_lt, g_le, g_gt, g_ge, g_eqI, g_neI, g_abs, g_gcd, g_is, g_isNot, ok0, ok1, ok2, ok3, ok4, ok5, ok6, ok7, ok8, ok9, ok10, ok11, ok12, ok13, ok14, ok15, h1, h2]
theorem u2 (h1 : F2 g_fraction_sum_s B A T) (h2 : F2 g_fraction_product_s B A P) (n1 : gNe T T = some (.fz (.bool false))) (n2 : gNe P P = some (.fz (.bool false))) : (orF (tstF (opF gNe (callF none g_fraction_sum_s (consF (varF 1) (consF (varF 0) (nilF))) (nilF)) (varF 3))) (tstF (opF gNe (callF none g_fraction_product_s (consF (varF 1) (consF (varF 0) (nilF))) (nilF)) (varF 4)))) [some (.fz A), some (.fz B), some (.fz C), some (.fz T), some (.fz P), x] = some (false, [some (.fz A), some (.fz B), some (.fz C), some (.fz T), some (.fz P), x]) := by
  simp only [e_seq, e_kseq, e_kseqR, e_kseqB, e_kseqC, e_skip, e_if, e_ifT, e_ifF, e_ret, e_kret, e_kretL, e_kretD, e_kretA, e_kretA2, e_set, e_kset, e_ksetL, e_ksetD, e_ksetS, e_ksetA, e_ksetA2, e_expr, e_knx, e_cvF, e_cvS, e_cvL, e_cvD, e_cfF, e_cfL, e_cdF, e_cdL, e_ckD, e_clL, e_pkF, e_pkL, e_pkA, e_fzF, e_fzL, e_fzA, e_var, e_c, e_op, e_o1, e_o2, e_o3, e_o4, e_tst, e_kt, e_and, e_andT, e_andF, e_or, e_orT, e_orF, e_not, e_knot, e_andV, e_andVT, e_andVF, e_orV, e_orVT, e_orVF, e_notV, e_knotV, e_ifE, e_ifET, e_ifEF, e_neg, e_kneg, e_nil, e_cons, e_a1F, e_a1S, e_a1L, e_a1A, e_a2, e_fa0, e_fa1, e_fa2, e_fa3, e_tup, e_ktup, e_ktup2, e_lst, e_klst, e_klst2, e_pa0, e_pa1, e_pa2, e_pa3, e_cl, e_kcl, e_kcl2, e_dget, e_d1, e_d2, e_d2i, e_d3, e_d4, e_dput, e_p1, e_p2, e_p3, e_p4, e_p5, e_knil, e_kcons, e_k1, e_k2, e_k3, e_disp, e_k4, e_nop, e_somep, e_ksome, e_sl, e_s1, e_s2, e_s3, e_gnm, e_gtp, e_gnil, e_gcons, e_kg, e_asg, e_as1, e_as2, e_as3, e_par, e_pr, e_pr2, e_it, e_i1, e_i2L, e_i2T, e_r1, e_kr1, e_for, e_kfor, e_l0, e_l1, e_l2, e_l3, e_l3c, e_l3b, e_l3r, e_w1, e_wT, e_wF, e_w2, e_fn, e_kfn, e_kfnN, e_kfn2, e_ent, e_out0, e_outN, e_outT, e_outF, e_kout, e_md0, e_md1, e_md2, e_md3, e_call, e_c1, e_c2, e_c3, e_c4, e_en, e_en0, e_es0, e_es, e_e1, e_e0, e_e2, e_e3, e_kp, e_kpL, e_kpD, e_fsS, e_fsF, e_fsA, e_fsL, e_kfr, e_le0, e_le1, e_le2, e_comp, e_lc, e_lc2, e_m0, e_m1, e_m2, e_m3, e_m3F, e_m4, e_m5, e_yes, e_wi0, e_wi1, e_star, e_star2, e_star3, e_isi, e_is1, e_is2, e_orE, e_orE1, e_orE2, e_app, e_ap1, e_ap2, e_ap3, e_ap4, e_ap5, e_ext, e_ex1, e_ex2, e_ex3, e_ex4, e_ex5, e_ch, e_ch1, e_ch2, e_ch3, e_ch4, e_ch5, List.length_cons, List.length_nil, List.map_cons, List.map_nil, Nat.reduceAdd, Nat.reduceSub, List.replicate_succ, List.replicate_zero, List.cons_append, List.nil_append, List.append_nil, List.getElem?_cons_zero, List.getElem?_cons_succ, List.set_cons_zero, List.set_cons_succ, ags, ite_true, if_true, g_add, g_sub, g_lt, g_le, g_gt, g_ge, g_eqI, g_neI, g_abs, g_gcd, g_is, g_isNot, ok0, ok1, ok2, ok3, ok4, ok5, ok6, ok7, ok8, ok9, ok10, ok11, ok12, ok13, ok14, ok15, h1, h2, n1, n2]
theorem u3 {D U : PyData} (h1 : F2 g_fraction_sum_s T C U) (h2 : F2 g_fraction_sum_s B C D) (h3 : F2 g_fraction_sum_s A D U) (h4 : F3 g_fraction_sum_s A B C U) (n : gEq U U = some (.fz (.bool true))) : notF (tstF (chF gEq gEq (callF none g_fraction_sum_s (consF (varF 3) (consF (varF 2) (nilF))) (nilF)) (callF none g_fraction_sum_s (consF (varF 0) (consF (callF none g_fraction_sum_s (consF (varF 1) (consF (varF 2) (nilF))) (nilF)) (nilF))) (nilF)) (callF none g_fraction_sum_s (consF (varF 0) (consF (varF 1) (consF (varF 2) (nilF)))) (nilF)))) [some (.fz A), some (.fz B), some (.fz C), some (.fz T), some (.fz P), x] = some (false, [some (.fz A), some (.fz B), some (.fz C), some (.fz T), some (.fz P), x]) := by
  simp only [e_seq, e_kseq, e_kseqR, e_kseqB, e_kseqC, e_skip, e_if, e_ifT, e_ifF, e_ret, e_kret, e_kretL, e_kretD, e_kretA, e_kretA2, e_set, e_kset, e_ksetL, e_ksetD, e_ksetS, e_ksetA, e_ksetA2, e_expr, e_knx, e_cvF, e_cvS, e_cvL, e_cvD, e_cfF, e_cfL, e_cdF, e_cdL, e_ckD, e_clL, e_pkF, e_pkL, e_pkA, e_fzF, e_fzL, e_fzA, e_var, e_c, e_op, e_o1, e_o2, e_o3, e_o4, e_tst, e_kt, e_and, e_andT, e_andF, e_or, e_orT, e_orF, e_not, e_knot, e_andV, e_andVT, e_andVF, e_orV, e_orVT, e_orVF, e_notV, e_knotV, e_ifE, e_ifET, e_ifEF, e_neg, e_kneg, e_nil, e_cons, e_a1F, e_a1S, e_a1L, e_a1A, e_a2, e_fa0, e_fa1, e_fa2, e_fa3, e_tup, e_ktup, e_ktup2, e_lst, e_klst, e_klst2, e_pa0, e_pa1, e_pa2, e_pa3, e_cl, e_kcl, e_kcl2, e_dget, e_d1, e_d2, e_d2i, e_d3, e_d4, e_dput, e_p1, e_p2, e_p3, e_p4, e_p5, e_knil, e_kcons, e_k1, e_k2, e_k3, e_disp, e_k4, e_nop, e_somep, e_ksome, e_sl, e_s1, e_s2, e_s3, e_gnm, e_gtp, e_gnil, e_gcons, e_kg, e_asg, e_as1, e_as2, e_as3, e_par, e_pr, e_pr2, e_it, e_i1, e_i2L, e_i2T, e_r1, e_kr1, e_for, e_kfor, e_l0, e_l1, e_l2, e_l3, e_l3c, e_l3b, e_l3r, e_w1, e_wT, e_wF, e_w2, e_fn, e_kfn, e_kfnN, e_kfn2, e_ent, e_out0, e_outN, e_outT, e_outF, e_kout, e_md0, e_md1, e_md2, e_md3, e_call, e_c1, e_c2, e_c3, e_c4, e_en, e_en0, e_es0, e_es, e_e1, e_e0, e_e2, e_e3, e_kp, e_kpL, e_kpD, e_fsS, e_fsF, e_fsA, e_fsL, e_kfr, e_le0, e_le1, e_le2, e_comp, e_lc, e_lc2, e_m0, e_m1, e_m2, e_m3, e_m3F, e_m4, e_m5, e_yes, e_wi0, e_wi1, e_star, e_star2, e_star3, e_isi, e_is1, e_is2, e_orE, e_orE1, e_orE2, e_app, e_ap1, e_ap2, e_ap3, e_ap4, e_ap5, e_ext, e_ex1, e_ex2, e_ex3, e_ex4, e_ex5, e_ch, e_ch1, e_ch2, e_ch3, e_ch4, e_ch5, List.length_cons, List.length_nil, List.map_cons, List.map_nil, Nat.reduceAdd, Nat.reduceSub, List.replicate_succ, List.replicate_zero, List.cons_append, List.nil_append, List.append_nil, List.getElem?_cons_zero, List.getElem?_cons_succ, List.set_cons_zero, List.set_cons_succ, ags, ite_true, if_true, g_add, g_sub, g_lt, g_le, g_gt, g_ge, g_eqI, g_neI, g_abs, g_gcd, g_is, g_isNot, ok0, ok1, ok2, ok3, ok4, ok5, ok6, ok7, ok8, ok9, ok10, ok11, ok12, ok13, ok14, ok15, h1, h2, h3, h4, n, Bool.not_true]
theorem u4 {V : PyData} (h1 : F2 g_fraction_product_s P C V) (h2 : F3 g_fraction_product_s C B A V) (n : gNe V V = some (.fz (.bool false))) : tstF (opF gNe (callF none g_fraction_product_s (consF (varF 4) (consF (varF 2) (nilF))) (nilF)) (callF none g_fraction_product_s (consF (varF 2) (consF (varF 1) (consF (varF 0) (nilF)))) (nilF))) [some (.fz A), some (.fz B), some (.fz C), some (.fz T), some (.fz P), x] = some (false, [some (.fz A), some (.fz B), some (.fz C), some (.fz T), some (.fz P), x]) := by
  simp only [e_seq, e_kseq, e_kseqR, e_kseqB, e_kseqC, e_skip, e_if, e_ifT, e_ifF, e_ret, e_kret, e_kretL, e_kretD, e_kretA, e_kretA2, e_set, e_kset, e_ksetL, e_ksetD, e_ksetS, e_ksetA, e_ksetA2, e_expr, e_knx, e_cvF, e_cvS, e_cvL, e_cvD, e_cfF, e_cfL, e_cdF, e_cdL, e_ckD, e_clL, e_pkF, e_pkL, e_pkA, e_fzF, e_fzL, e_fzA, e_var, e_c, e_op, e_o1, e_o2, e_o3, e_o4, e_tst, e_kt, e_and, e_andT, e_andF, e_or, e_orT, e_orF, e_not, e_knot, e_andV, e_andVT, e_andVF, e_orV, e_orVT, e_orVF, e_notV, e_knotV, e_ifE, e_ifET, e_ifEF, e_neg, e_kneg, e_nil, e_cons, e_a1F, e_a1S, e_a1L, e_a1A, e_a2, e_fa0, e_fa1, e_fa2, e_fa3, e_tup, e_ktup, e_ktup2, e_lst, e_klst, e_klst2, e_pa0, e_pa1, e_pa2, e_pa3, e_cl, e_kcl, e_kcl2, e_dget, e_d1, e_d2, e_d2i, e_d3, e_d4, e_dput, e_p1, e_p2, e_p3, e_p4, e_p5, e_knil, e_kcons, e_k1, e_k2, e_k3, e_disp, e_k4, e_nop, e_somep, e_ksome, e_sl, e_s1, e_s2, e_s3, e_gnm, e_gtp, e_gnil, e_gcons, e_kg, e_asg, e_as1, e_as2, e_as3, e_par, e_pr, e_pr2, e_it, e_i1, e_i2L, e_i2T, e_r1, e_kr1, e_for, e_kfor, e_l0, e_l1, e_l2, e_l3, e_l3c, e_l3b, e_l3r, e_w1, e_wT, e_wF, e_w2, e_fn, e_kfn, e_kfnN, e_kfn2, e_ent, e_out0, e_outN, e_outT, e_outF, e_kout, e_md0, e_md1, e_md2, e_md3, e_call, e_c1, e_c2, e_c3, e_c4, e_en, e_en0, e_es0, e_es, e_e1, e_e0, e_e2, e_e3, e_kp, e_kpL, e_kpD, e_fsS, e_fsF, e_fsA, e_fsL, e_kfr, e_le0, e_le1, e_le2, e_comp, e_lc, e_lc2, e_m0, e_m1, e_m2, e_m3, e_m3F, e_m4, e_m5, e_yes, e_wi0, e_wi1, e_star, e_star2, e_star3, e_isi, e_is1, e_is2, e_orE, e_orE1, e_orE2, e_app, e_ap1, e_ap2, e_ap3, e_ap4, e_ap5, e_ext, e_ex1, e_ex2, e_ex3, e_ex4, e_ex5, e_ch, e_ch1, e_ch2, e_ch3, e_ch4, e_ch5, List.length_cons, List.length_nil, List.map_cons, List.map_nil, Nat.reduceAdd, Nat.reduceSub, List.replicate_succ, List.replicate_zero, List.cons_append, List.nil_append, List.append_nil, List.getElem?_cons_zero, List.getElem?_cons_succ, List.set_cons_zero, List.set_cons_succ, ags, ite_true, if_true, g_add, g_sub, g_lt, g_le, g_gt, g_ge, g_eqI, g_neI, g_abs, g_gcd, g_is, g_isNot, ok0, ok1, ok2, ok3, ok4, ok5, ok6, ok7, ok8, ok9, ok10, ok11, ok12, ok13, ok14, ok15, h1, h2, n]
theorem u5 {W D E : PyData} (h1 : F2 g_fraction_product_s T C W) (h2 : F2 g_fraction_product_s A C D) (h3 : F2 g_fraction_product_s B C E) (h4 : F2 g_fraction_sum_s D E W) (n : gNe W W = some (.fz (.bool false))) : tstF (opF gNe (callF none g_fraction_product_s (consF (varF 3) (consF (varF 2) (nilF))) (nilF)) (callF none g_fraction_sum_s (consF (callF none g_fraction_product_s (consF (varF 0) (consF (varF 2) (nilF))) (nilF)) (consF (callF none g_fraction_product_s (consF (varF 1) (consF (varF 2) (nilF))) (nilF)) (nilF))) (nilF))) [some (.fz A), some (.fz B), some (.fz C), some (.fz T), some (.fz P), x] = some (false, [some (.fz A), some (.fz B), some (.fz C), some (.fz T), some (.fz P), x]) := by
  simp only [e_seq, e_kseq, e_kseqR, e_kseqB, e_kseqC, e_skip, e_if, e_ifT, e_ifF, e_ret, e_kret, e_kretL, e_kretD, e_kretA, e_kretA2, e_set, e_kset, e_ksetL, e_ksetD, e_ksetS, e_ksetA, e_ksetA2, e_expr, e_knx, e_cvF, e_cvS, e_cvL, e_cvD, e_cfF, e_cfL, e_cdF, e_cdL, e_ckD, e_clL, e_pkF, e_pkL, e_pkA, e_fzF, e_fzL, e_fzA, e_var, e_c, e_op, e_o1, e_o2, e_o3, e_o4, e_tst, e_kt, e_and, e_andT, e_andF, e_or, e_orT, e_orF, e_not, e_knot, e_andV, e_andVT, e_andVF, e_orV, e_orVT, e_orVF, e_notV, e_knotV, e_ifE, e_ifET, e_ifEF, e_neg, e_kneg, e_nil, e_cons, e_a1F, e_a1S, e_a1L, e_a1A, e_a2, e_fa0, e_fa1, e_fa2, e_fa3, e_tup, e_ktup, e_ktup2, e_lst, e_klst, e_klst2, e_pa0, e_pa1, e_pa2, e_pa3, e_cl, e_kcl, e_kcl2, e_dget, e_d1, e_d2, e_d2i, e_d3, e_d4, e_dput, e_p1, e_p2, e_p3, e_p4, e_p5, e_knil, e_kcons, e_k1, e_k2, e_k3, e_disp, e_k4, e_nop, e_somep, e_ksome, e_sl, e_s1, e_s2, e_s3, e_gnm, e_gtp, e_gnil, e_gcons, e_kg, e_asg, e_as1, e_as2, e_as3, e_par, e_pr, e_pr2, e_it, e_i1, e_i2L, e_i2T, e_r1, e_kr1, e_for, e_kfor, e_l0, e_l1, e_l2, e_l3, e_l3c, e_l3b, e_l3r, e_w1, e_wT, e_wF, e_w2, e_fn, e_kfn, e_kfnN, e_kfn2, e_ent, e_out0, e_outN, e_outT, e_outF, e_kout, e_md0, e_md1, e_md2, e_md3, e_call, e_c1, e_c2, e_c3, e_c4, e_en, e_en0, e_es0, e_es, e_e1, e_e0, e_e2, e_e3, e_kp, e_kpL, e_kpD, e_fsS, e_fsF, e_fsA, e_fsL, e_kfr, e_le0, e_le1, e_le2, e_comp, e_lc, e_lc2, e_m0, e_m1, e_m2, e_m3, e_m3F, e_m4, e_m5, e_yes, e_wi0, e_wi1, e_star, e_star2, e_star3, e_isi, e_is1, e_is2, e_orE, e_orE1, e_orE2, e_app, e_ap1, e_ap2, e_ap3, e_ap4, e_ap5, e_ext, e_ex1, e_ex2, e_ex3, e_ex4, e_ex5, e_ch, e_ch1, e_ch2, e_ch3, e_ch4, e_ch5, List.length_cons, List.length_nil, List.map_cons, List.map_nil, Nat.reduceAdd, Nat.reduceSub, List.replicate_succ, List.replicate_zero, List.cons_append, List.nil_append, List.append_nil, List.getElem?_cons_zero, List.getElem?_cons_succ, List.set_cons_zero, List.set_cons_succ, ags, ite_true, if_true, g_add, g_sub, g_lt, g_le, g_gt, g_ge, g_eqI, g_neI, g_abs, g_gcd, g_is, g_isNot, ok0, ok1, ok2, ok3, ok4, ok5, ok6, ok7, ok8, ok9, ok10, ok11, ok12, ok13, ok14, ok15, h1, h2, h3, h4, n]
theorem u6 {z o : PyData} (h1 : F0 g_fraction_sum_s z) (h2 : F0 g_fraction_product_s o) (h3 : F2 g_fraction_sum_s A z A) (h4 : F2 g_fraction_product_s A o A) (n : gNe A A = some (.fz (.bool false))) : (orF (tstF (opF gNe (callF none g_fraction_sum_s (consF (varF 0) (consF (callF none g_fraction_sum_s (nilF) (nilF)) (nilF))) (nilF)) (varF 0))) (tstF (opF gNe (callF none g_fraction_product_s (consF (varF 0) (consF (callF none g_fraction_product_s (nilF) (nilF)) (nilF))) (nilF)) (varF 0)))) [some (.fz A), some (.fz B), some (.fz C), some (.fz T), some (.fz P), x] = some (false, [some (.fz A), some (.fz B), some (.fz C), some (.fz T), some (.fz P), x]) := by
  simp only [e_seq, e_kseq, e_kseqR, e_kseqB, e_kseqC, e_skip, e_if, e_ifT, e_ifF, e_ret, e_kret, e_kretL, e_kretD, e_kretA, e_kretA2, e_set, e_kset, e_ksetL, e_ksetD, e_ksetS, e_ksetA, e_ksetA2, e_expr, e_knx, e_cvF, e_cvS, e_cvL, e_cvD, e_cfF, e_cfL, e_cdF, e_cdL, e_ckD, e_clL, e_pkF, e_pkL, e_pkA, e_fzF, e_fzL, e_fzA, e_var, e_c, e_op, e_o1, e_o2, e_o3, e_o4, e_tst, e_kt, e_and, e_andT, e_andF, e_or, e_orT, e_orF, e_not, e_knot, e_andV, e_andVT, e_andVF, e_orV, e_orVT, e_orVF, e_notV, e_knotV, e_ifE, e_ifET, e_ifEF, e_neg, e_kneg, e_nil, e_cons, e_a1F, e_a1S, e_a1L, e_a1A, e_a2, e_fa0, e_fa1, e_fa2, e_fa3, e_tup, e_ktup, e_ktup2, e_lst, e_klst, e_klst2, e_pa0, e_pa1, e_pa2, e_pa3, e_cl, e_kcl, e_kcl2, e_dget, e_d1, e_d2, e_d2i, e_d3, e_d4, e_dput, e_p1, e_p2, e_p3, e_p4, e_p5, e_knil, e_kcons, e_k1, e_k2, e_k3, e_disp, e_k4, e_nop, e_somep, e_ksome, e_sl, e_s1, e_s2, e_s3, e_gnm, e_gtp, e_gnil, e_gcons, e_kg, e_asg, e_as1, e_as2, e_as3, e_par, e_pr, e_pr2, e_it, e_i1, e_i2L, e_i2T, e_r1, e_kr1, e_for, e_kfor, e_l0, e_l1, e_l2, e_l3, e_l3c, e_l3b, e_l3r, e_w1, e_wT, e_wF, e_w2, e_fn, e_kfn, e_kfnN, e_kfn2, e_ent, e_out0, e_outN, e_outT, e_outF, e_kout, e_md0, e_md1, e_md2, e_md3, e_call, e_c1, e_c2, e_c3, e_c4, e_en, e_en0, e_es0, e_es, e_e1, e_e0, e_e2, e_e3, e_kp, e_kpL, e_kpD, e_fsS, e_fsF, e_fsA, e_fsL, e_kfr, e_le0, e_le1, e_le2, e_comp, e_lc, e_lc2, e_m0, e_m1, e_m2, e_m3, e_m3F, e_m4, e_m5, e_yes, e_wi0, e_wi1, e_star, e_star2, e_star3, e_isi, e_is1, e_is2, e_orE, e_orE1, e_orE2, e_app, e_ap1, e_ap2, e_ap3, e_ap4, e_ap5, e_ext, e_ex1, e_ex2, e_ex3, e_ex4, e_ex5, e_ch, e_ch1, e_ch2, e_ch3, e_ch4, e_ch5, List.length_cons, List.length_nil, List.map_cons, List.map_nil, Nat.reduceAdd, Nat.reduceSub, List.replicate_succ, List.replicate_zero, List.cons_append, List.nil_append, List.append_nil, List.getElem?_cons_zero, List.getElem?_cons_succ, List.set_cons_zero, List.set_cons_succ, ags, ite_true, if_true, g_add, g_sub, g_lt, g_le, g_gt, g_ge, g_eqI, g_neI, g_abs, g_gcd, g_is, g_isNot, ok0, ok1, ok2, ok3, ok4, ok5, ok6, ok7, ok8, ok9, ok10, ok11, ok12, ok13, ok14, ok15, h1, h2, h3, h4, n]
theorem u7 {N : PyData} (h1 : F2 g_fraction_product_s (.tuple [.int (-1), .int 1]) A N) (h2 : F2 g_fraction_sum_s A N (.tuple [.int 0, .int 1])) (h3 : F2 g_fraction_product_s A (.tuple [.int 0, .int 1]) (.tuple [.int 0, .int 1])) (n : gNe (.tuple [.int 0, .int 1]) (.tuple [.int 0, .int 1]) = some (.fz (.bool false))) : (orF (tstF (opF gNe (callF none g_fraction_sum_s (consF (varF 0) (consF (callF none g_fraction_product_s (consF (tupF (consF (negF (cF (.int 1))) (consF (cF (.int 1)) (nilF)))) (consF (varF 0) (nilF))) (nilF)) (nilF))) (nilF)) (tupF (consF (cF (.int 0)) (consF (cF (.int 1)) (nilF)))))) (tstF (opF gNe (callF none g_fraction_product_s (consF (varF 0) (consF (tupF (consF (cF (.int 0)) (consF (cF (.int 1)) (nilF)))) (nilF))) (nilF)) (tupF (consF (cF (.int 0)) (consF (cF (.int 1)) (nilF))))))) [some (.fz A), some (.fz B), some (.fz C), some (.fz T), some (.fz P), x] = some (false, [some (.fz A), some (.fz B), some (.fz C), some (.fz T), some (.fz P), x]) := by
  simp only [e_seq, e_kseq, e_kseqR, e_kseqB, e_kseqC, e_skip, e_if, e_ifT, e_ifF, e_ret, e_kret, e_kretL, e_kretD, e_kretA, e_kretA2, e_set, e_kset, e_ksetL, e_ksetD, e_ksetS, e_ksetA, e_ksetA2, e_expr, e_knx, e_cvF, e_cvS, e_cvL, e_cvD, e_cfF, e_cfL, e_cdF, e_cdL, e_ckD, e_clL, e_pkF, e_pkL, e_pkA, e_fzF, e_fzL, e_fzA, e_var, e_c, e_op, e_o1, e_o2, e_o3, e_o4, e_tst, e_kt, e_and, e_andT, e_andF, e_or, e_orT, e_orF, e_not, e_knot, e_andV, e_andVT, e_andVF, e_orV, e_orVT, e_orVF, e_notV, e_knotV, e_ifE, e_ifET, e_ifEF, e_neg, e_kneg, e_nil, e_cons, e_a1F, e_a1S, e_a1L, e_a1A, e_a2, e_fa0, e_fa1, e_fa2, e_fa3, e_tup, e_ktup, e_ktup2, e_lst, e_klst, e_klst2, e_pa0, e_pa1, e_pa2, e_pa3, e_cl, e_kcl, e_kcl2, e_dget, e_d1, e_d2, e_d2i, e_d3, e_d4, e_dput, e_p1, e_p2, e_p3, e_p4, e_p5, e_knil, e_kcons, e_k1, e_k2, e_k3, e_disp, e_k4, e_nop, e_somep, e_ksome, e_sl, e_s1, e_s2, e_s3, e_gnm, e_gtp, e_gnil, e_gcons, e_kg, e_asg, e_as1, e_as2, e_as3, e_par, e_pr, e_pr2, e_it, e_i1, e_i2L, e_i2T, e_r1, e_kr1, e_for, e_kfor, e_l0, e_l1, e_l2, e_l3, e_l3c, e_l3b, e_l3r, e_w1, e_wT, e_wF, e_w2, e_fn, e_kfn, e_kfnN, e_kfn2, e_ent, e_out0, e_outN, e_outT, e_outF, e_kout, e_md0, e_md1, e_md2, e_md3, e_call, e_c1, e_c2, e_c3, e_c4, e_en, e_en0, e_es0, e_es, e_e1, e_e0, e_e2, e_e3, e_kp, e_kpL, e_kpD, e_fsS, e_fsF, e_fsA, e_fsL, e_kfr, e_le0, e_le1, e_le2, e_comp, e_lc, e_lc2, e_m0, e_m1, e_m2, e_m3, e_m3F, e_m4, e_m5, e_yes, e_wi0, e_wi1, e_star, e_star2, e_star3, e_isi, e_is1, e_is2, e_orE, e_orE1, e_orE2, e_app, e_ap1, e_ap2, e_ap3, e_ap4, e_ap5, e_ext, e_ex1, e_ex2, e_ex3, e_ex4, e_ex5, e_ch, e_ch1, e_ch2, e_ch3, e_ch4, e_ch5, List.length_cons, List.length_nil, List.map_cons, List.map_nil, Nat.reduceAdd, Nat.reduceSub, List.replicate_succ, List.replicate_zero, List.cons_append, List.nil_append, List.append_nil, List.getElem?_cons_zero, List.getElem?_cons_succ, List.set_cons_zero, List.set_cons_succ, ags, ite_true, if_true, g_add, g_sub, g_lt, g_le, g_gt, g_ge, g_eqI, g_neI, g_abs, g_gcd, g_is, g_isNot, ok0, ok1, ok2, ok3, ok4, ok5, ok6, ok7, ok8, ok9, ok10, ok11, ok12, ok13, ok14, ok15, h1, h2, h3, n]
abbrev t8 : TF := (andF (tstF (chF gLt gLt (cF (.int 0)) (clF gAbs (consF (opF gIx (varF 0) (cF (.int 0))) (nilF))) (cF (.int 101)))) (tstF (opF gNe (callF none g_fraction_product_s (consF (varF 0) (consF (callF none g_fraction_2 (consF (opF gIx (varF 0) (cF (.int 1))) (consF (opF gIx (varF 0) (cF (.int 0))) (nilF))) (nilF)) (nilF))) (nilF)) (tupF (consF (cF (.int 1)) (consF (cF (.int 1)) (nilF)))))))
theorem u8a {i : Int} (h1 : gIx A (.int 0) = some (.fz (.int i))) (h0 : i = 0) : t8 [some (.fz A), some (.fz B), some (.fz C), some (.fz T), some (.fz P), x] = some (false, [some (.fz A), some (.fz B), some (.fz C), some (.fz T), some (.fz P), x]) := by
  subst h0
  simp only [e_seq, e_kseq, e_kseqR, e_kseqB, e_kseqC, e_skip, e_if, e_ifT, e_ifF, e_ret, e_kret, e_kretL, e_kretD, e_kretA, e_kretA2, e_set, e_kset, e_ksetL, e_ksetD, e_ksetS, e_ksetA, e_ksetA2, e_expr, e_knx, e_cvF, e_cvS, e_cvL, e_cvD, e_cfF, e_cfL, e_cdF, e_cdL, e_ckD, e_clL, e_pkF, e_pkL, e_pkA, e_fzF, e_fzL, e_fzA, e_var, e_c, e_op, e_o1, e_o2, e_o3, e_o4, e_tst, e_kt, e_and, e_andT, e_andF, e_or, e_orT, e_orF, e_not, e_knot, e_andV, e_andVT, e_andVF, e_orV, e_orVT, e_orVF, e_notV, e_knotV, e_ifE, e_ifET, e_ifEF, e_neg, e_kneg, e_nil, e_cons, e_a1F, e_a1S, e_a1L, e_a1A, e_a2, e_fa0, e_fa1, e_fa2, e_fa3, e_tup, e_ktup, e_ktup2, e_lst, e_klst, e_klst2, e_pa0, e_pa1, e_pa2, e_pa3, e_cl, e_kcl, e_kcl2, e_dget, e_d1, e_d2, e_d2i, e_d3, e_d4, e_dput, e_p1, e_p2, e_p3, e_p4, e_p5, e_knil, e_kcons, e_k1, e_k2, e_k3, e_disp, e_k4, e_nop, e_somep, e_ksome, e_sl, e_s1, e_s2, e_s3, e_gnm, e_gtp, e_gnil, e_gcons, e_kg, e_asg, e_as1, e_as2, e_as3, e_par, e_pr, e_pr2, e_it, e_i1, e_i2L, e_i2T, e_r1, e_kr1, e_for, e_kfor, e_l0, e_l1, e_l2, e_l3, e_l3c, e_l3b, e_l3r, e_w1, e_wT, e_wF, e_w2, e_fn, e_kfn, e_kfnN, e_kfn2, e_ent, e_out0, e_outN, e_outT, e_outF, e_kout, e_md0, e_md1, e_md2, e_md3, e_call, e_c1, e_c2, e_c3, e_c4, e_en, e_en0, e_es0, e_es, e_e1, e_e0, e_e2, e_e3, e_kp, e_kpL, e_kpD, e_fsS, e_fsF, e_fsA, e_fsL, e_kfr, e_le0, e_le1, e_le2, e_comp, e_lc, e_lc2, e_m0, e_m1, e_m2, e_m3, e_m3F, e_m4, e_m5, e_yes, e_wi0, e_wi1, e_star, e_star2, e_star3, e_isi, e_is1, e_is2, e_orE, e_orE1, e_orE2, e_app, e_ap1, e_ap2, e_ap3, e_ap4, e_ap5, e_ext, e_ex1, e_ex2, e_ex3, e_ex4, e_ex5, e_ch, e_ch1, e_ch2, e_ch3, e_ch4, e_ch5, List.length_cons, List.length_nil, List.map_cons, List.map_nil, Nat.reduceAdd, Nat.reduceSub, List.replicate_succ, List.replicate_zero, List.cons_append, List.nil_append, List.append_nil, List.getElem?_cons_zero, List.getElem?_cons_succ, List.set_cons_zero, List.set_cons_succ, ags, ite_true, if_true, g_add, g_sub, g_lt, g_le, g_gt, g_ge, g_eqI, g_neI, g_abs, g_gcd, g_is, g_isNot, ok0, ok1, ok2, ok3, ok4, ok5, ok6, ok7, ok8, ok9, ok10, ok11, ok12, ok13, ok14, ok15, h1, Int.natAbs_zero, Int.natCast_zero, Int.cast_ofNat_Int, Int.lt_irrefl, decide_false]
theorem u8b {i j : Int} {R : PyData} (h1 : gIx A (.int 0) = some (.fz (.int i))) (h0 : i ≠ 0) (h2 : gIx A (.int 1) = some (.fz (.int j))) (h3 : F2 g_fraction_2 (.int j) (.int i) R) (h4 : F2 g_fraction_product_s A R (.tuple [.int 1, .int 1])) (n : gNe (.tuple [.int 1, .int 1]) (.tuple [.int 1, .int 1]) = some (.fz (.bool false))) : t8 [some (.fz A), some (.fz B), some (.fz C), some (.fz T), some (.fz P), x] = some (false, [some (.fz A), some (.fz B), some (.fz C), some (.fz T), some (.fz P), x]) := by
  have d : decide ((0 : Int) < (i.natAbs : Int)) = true := decide_eq_true (by omega)
  by_cases c : (i.natAbs : Int) < 101
  · simp only [e_seq, e_kseq, e_kseqR, e_kseqB, e_kseqC, e_skip, e_if, e_ifT, e_ifF, e_ret, e_kret, e_kretL, e_kretD, e_kretA, e_kretA2, e_set, e_kset, e_ksetL, e_ksetD, e_ksetS, e_ksetA, e_ksetA2, e_expr, e_knx, e_cvF, e_cvS, e_cvL, e_cvD, e_cfF, e_cfL, e_cdF, e_cdL, e_ckD, e_clL, e_pkF, e_pkL, e_pkA, e_fzF, e_fzL, e_fzA, e_var, e_c, e_op, e_o1, e_o2, e_o3, e_o4, e_tst, e_kt, e_and, e_andT, e_andF, e_or, e_orT, e_orF, e_not, e_knot, e_andV, e_andVT, e_andVF, e_orV, e_orVT, e_orVF, e_notV, e_knotV, e_ifE, e_ifET, e_ifEF, e_neg, e_kneg, e_nil, e_cons, e_a1F, e_a1S, e_a1L, e_a1A, e_a2, e_fa0, e_fa1, e_fa2, e_fa3, e_tup, e_ktup, e_ktup2, e_lst, e_klst, e_klst2, e_pa0, e_pa1, e_pa2, e_pa3, e_cl, e_kcl, e_kcl2, e_dget, e_d1, e_d2, e_d2i, e_d3, e_d4, e_dput, e_p1, e_p2, e_p3, e_p4, e_p5, e_knil, e_kcons, e_k1, e_k2, e_k3, e_disp, e_k4, e_nop, e_somep, e_ksome, e_sl, e_s1, e_s2, e_s3, e_gnm, e_gtp, e_gnil, e_gcons, e_kg, e_asg, e_as1, e_as2, e_as3, e_par, e_pr, e_pr2, e_it, e_i1, e_i2L, e_i2T, e_r1, e_kr1, e_for, e_kfor, e_l0, e_l1, e_l2, e_l3, e_l3c, e_l3b, e_l3r, e_w1, e_wT, e_wF, e_w2, e_fn, e_kfn, e_kfnN, e_kfn2, e_ent, e_out0, e_outN, e_outT, e_outF, e_kout, e_md0, e_md1, e_md2, e_md3, e_call, e_c1, e_c2, e_c3, e_c4, e_en, e_en0, e_es0, e_es, e_e1, e_e0, e_e2, e_e3, e_kp, e_kpL, e_kpD, e_fsS, e_fsF, e_fsA, e_fsL, e_kfr, e_le0, e_le1, e_le2, e_comp, e_lc, e_lc2, e_m0, e_m1, e_m2, e_m3, e_m3F, e_m4, e_m5, e_yes, e_wi0, e_wi1, e_star, e_star2, e_star3, e_isi, e_is1, e_is2, e_orE, e_orE1, e_orE2, e_app, e_ap1, e_ap2, e_ap3, e_ap4, e_ap5, e_ext, e_ex1, e_ex2, e_ex3, e_ex4, e_ex5, e_ch, e_ch1, e_ch2, e_ch3, e_ch4, e_ch5, List.length_cons, List.length_nil, List.map_cons, List.map_nil, Nat.reduceAdd, Nat.reduceSub, List.replicate_succ, List.replicate_zero, List.cons_append, List.nil_append, List.append_nil, List.getElem?_cons_zero, List.getElem?_cons_succ, List.set_cons_zero, List.set_cons_succ, ags, ite_true, if_true, g_add, g_sub, g_lt, g_le, g_gt, g_ge, g_eqI, g_neI, g_abs, g_gcd, g_is, g_isNot, ok0, ok1, ok2, ok3, ok4, ok5, ok6, ok7, ok8, ok9, ok10, ok11, ok12, ok13, ok14, ok15, h1, h2, d, decide_eq_true c, h3, h4, n]
  · simp only [e_seq, e_kseq, e_kseqR, e_kseqB, e_kseqC, e_skip, e_if, e_ifT, e_ifF, e_ret, e_kret, e_kretL, e_kretD, e_kretA, e_kretA2, e_set, e_kset, e_ksetL, e_ksetD, e_ksetS, e_ksetA, e_ksetA2, e_expr, e_knx, e_cvF, e_cvS, e_cvL, e_cvD, e_cfF, e_cfL, e_cdF, e_cdL, e_ckD, e_clL, e_pkF, e_pkL, e_pkA, e_fzF, e_fzL, e_fzA, e_var, e_c, e_op, e_o1, e_o2, e_o3, e_o4, e_tst, e_kt, e_and, e_andT, e_andF, e_or, e_orT, e_orF, e_not, e_knot, e_andV, e_andVT, e_andVF, e_orV, e_orVT, e_orVF, e_notV, e_knotV, e_ifE, e_ifET, e_ifEF, e_neg, e_kneg, e_nil, e_cons, e_a1F, e_a1S, e_a1L, e_a1A, e_a2, e_fa0, e_fa1, e_fa2, e_fa3, e_tup, e_ktup, e_ktup2, e_lst, e_klst, e_klst2, e_pa0, e_pa1, e_pa2, e_pa3, e_cl, e_kcl, e_kcl2, e_dget, e_d1, e_d2, e_d2i, e_d3, e_d4, e_dput, e_p1, e_p2, e_p3, e_p4, e_p5, e_knil, e_kcons, e_k1, e_k2, e_k3, e_disp, e_k4, e_nop, e_somep, e_ksome, e_sl, e_s1, e_s2, e_s3, e_gnm, e_gtp, e_gnil, e_gcons, e_kg, e_asg, e_as1, e_as2, e_as3, e_par, e_pr, e_pr2, e_it, e_i1, e_i2L, e_i2T, e_r1, e_kr1, e_for, e_kfor, e_l0, e_l1, e_l2, e_l3, e_l3c, e_l3b, e_l3r, e_w1, e_wT, e_wF, e_w2, e_fn, e_kfn, e_kfnN, e_kfn2, e_ent, e_out0, e_outN, e_outT, e_outF, e_kout, e_md0, e_md1, e_md2, e_md3, e_call, e_c1, e_c2, e_c3, e_c4, e_en, e_en0, e_es0, e_es, e_e1, e_e0, e_e2, e_e3, e_kp, e_kpL, e_kpD, e_fsS, e_fsF, e_fsA, e_fsL, e_kfr, e_le0, e_le1, e_le2, e_comp, e_lc, e_lc2, e_m0, e_m1, e_m2, e_m3, e_m3F, e_m4, e_m5, e_yes, e_wi0, e_wi1, e_star, e_star2, e_star3, e_isi, e_is1, e_is2, e_orE, e_orE1, e_orE2, e_app, e_ap1, e_ap2, e_ap3, e_ap4, e_ap5, e_ext, e_ex1, e_ex2, e_ex3, e_ex4, e_ex5, e_ch, e_ch1, e_ch2, e_ch3, e_ch4, e_ch5, List.length_cons, List.length_nil, List.map_cons, List.map_nil, Nat.reduceAdd, Nat.reduceSub, List.replicate_succ, List.replicate_zero, List.cons_append, List.nil_append, List.append_nil, List.getElem?_cons_zero, List.getElem?_cons_succ, List.set_cons_zero, List.set_cons_succ, ags, ite_true, if_true, g_add, g_sub, g_lt, g_le, g_gt, g_ge, g_eqI, g_neI, g_abs, g_gcd, g_is, g_isNot, ok0, ok1, ok2, ok3, ok4, ok5, ok6, ok7, ok8, ok9, ok10, ok11, ok12, ok13, ok14, ok15, h1, d, decide_eq_false c]
theorem u9 {U : PyData} (h4 : F3 g_fraction_sum_s A B C U) (k1 : F1 g_is_fraction_1 T (.bool true)) (k2 : F1 g_is_fraction_1 P (.bool true)) (k3 : F1 g_is_fraction_1 U (.bool true)) (n : gEq (.list []) (.list []) = some (.fz (.bool true))) : opF gEq (compF (itI (tupF (consF (varF 3) (consF (varF 4) (consF (callF none g_fraction_sum_s (consF (varF 0) (consF (varF 1) (consF (varF 2) (nilF)))) (nilF)) (nilF)))))) (gNm 5) (notF (tstF (callF none g_is_fraction_1 (consF (varF 5) (nilF)) (nilF)))) (varF 5) [5]) (lstF (nilF)) [some (.fz A), some (.fz B), some (.fz C), some (.fz T), some (.fz P), none] = some (.fz (.bool true), [some (.fz A), some (.fz B), some (.fz C), some (.fz T), some (.fz P), none]) := by
  simp only [e_seq, e_kseq, e_kseqR, e_kseqB, e_kseqC, e_skip, e_if, e_ifT, e_ifF, e_ret, e_kret, e_kretL, e_kretD, e_kretA, e_kretA2, e_set, e_kset, e_ksetL, e_ksetD, e_ksetS, e_ksetA, e_ksetA2, e_expr, e_knx, e_cvF, e_cvS, e_cvL, e_cvD, e_cfF, e_cfL, e_cdF, e_cdL, e_ckD, e_clL, e_pkF, e_pkL, e_pkA, e_fzF, e_fzL, e_fzA, e_var, e_c, e_op, e_o1, e_o2, e_o3, e_o4, e_tst, e_kt, e_and, e_andT, e_andF, e_or, e_orT, e_orF, e_not, e_knot, e_andV, e_andVT, e_andVF, e_orV, e_orVT, e_orVF, e_notV, e_knotV, e_ifE, e_ifET, e_ifEF, e_neg, e_kneg, e_nil, e_cons, e_a1F, e_a1S, e_a1L, e_a1A, e_a2, e_fa0, e_fa1, e_fa2, e_fa3, e_tup, e_ktup, e_ktup2, e_lst, e_klst, e_klst2, e_pa0, e_pa1, e_pa2, e_pa3, e_cl, e_kcl, e_kcl2, e_dget, e_d1, e_d2, e_d2i, e_d3, e_d4, e_dput, e_p1, e_p2, e_p3, e_p4, e_p5, e_knil, e_kcons, e_k1, e_k2, e_k3, e_disp, e_k4, e_nop, e_somep, e_ksome, e_sl, e_s1, e_s2, e_s3, e_gnm, e_gtp, e_gnil, e_gcons, e_kg, e_asg, e_as1, e_as2, e_as3, e_par, e_pr, e_pr2, e_it, e_i1, e_i2L, e_i2T, e_r1, e_kr1, e_for, e_kfor, e_l0, e_l1, e_l2, e_l3, e_l3c, e_l3b, e_l3r, e_w1, e_wT, e_wF, e_w2, e_fn, e_kfn, e_kfnN, e_kfn2, e_ent, e_out0, e_outN, e_outT, e_outF, e_kout, e_md0, e_md1, e_md2, e_md3, e_call, e_c1, e_c2, e_c3, e_c4, e_en, e_en0, e_es0, e_es, e_e1, e_e0, e_e2, e_e3, e_kp, e_kpL, e_kpD, e_fsS, e_fsF, e_fsA, e_fsL, e_kfr, e_le0, e_le1, e_le2, e_comp, e_lc, e_lc2, e_m0, e_m1, e_m2, e_m3, e_m3F, e_m4, e_m5, e_yes, e_wi0, e_wi1, e_star, e_star2, e_star3, e_isi, e_is1, e_is2, e_orE, e_orE1, e_orE2, e_app, e_ap1, e_ap2, e_ap3, e_ap4, e_ap5, e_ext, e_ex1, e_ex2, e_ex3, e_ex4, e_ex5, e_ch, e_ch1, e_ch2, e_ch3, e_ch4, e_ch5, List.length_cons, List.length_nil, List.map_cons, List.map_nil, Nat.reduceAdd, Nat.reduceSub, List.replicate_succ, List.replicate_zero, List.cons_append, List.nil_append, List.append_nil, List.getElem?_cons_zero, List.getElem?_cons_succ, List.set_cons_zero, List.set_cons_succ, ags, ite_true, if_true, g_add, g_sub, g_lt, g_le, g_gt, g_ge, g_eqI, g_neI, g_abs, g_gcd, g_is, g_isNot, ok0, ok1, ok2, ok3, ok4, ok5, ok6, ok7, ok8, ok9, ok10, ok11, ok12, ok13, ok14, ok15, h4, k1, k2, k3, Bool.not_true, n]
end
end LW

namespace LW
open L2 PySem PySem.Spec PyProof.Rows DL RT
set_option maxHeartbeats 0
theorem inv_pos {a : Rat} (n : 0 < a.num) : Rat.normalize (a.den : Int) a.num.natAbs (by omega) = a⁻¹ := by
  rw [Rat.inv_def, Rat.normalize_eq_mkRat, ← Rat.divInt_ofNat]
  congr 1
  omega
theorem inv_neg {a : Rat} (n : a.num < 0) : Rat.normalize (-(a.den : Int)) a.num.natAbs (by omega) = a⁻¹ := by
  rw [Rat.inv_def, Rat.normalize_eq_mkRat, ← Rat.divInt_ofNat, ← Rat.neg_divInt_neg]
  congr 1 <;> omega
theorem frac_neg {a b : Int} (h : b < 0) {x : Rat} (e : ∀ (r : FF), fnF 2 3 (mdL none) (m_fraction r) [.fz (.int (-a)), .fz (.int (-b))] = some (.fz (fD x), [.fz (.int (-a)), .fz (.int (-b))])) : g_fraction_2 [.fz (.int a), .fz (.int b)] = some (.fz (fD x), [.fz (.int a), .fz (.int b)]) := by
  have e0 : g_fraction_2 [.fz (.int a), .fz (.int b)] = kStar2 [.fz (.int a), .fz (.int b)] (fnF 2 3 (mdL none) (m_fraction (h_fraction 1)) [.fz (.int a), .fz (.int b)]) := rfl
  have e1 : ∀ as : List S, as.length = 2 → (kwF 2 0 [(0, 0), (0, 1)] [.fz (.int 1)] (h_fraction 1)) [.fz (.int (-a)), .fz (.int (-b))] = some (.fz (fD x), [.fz (.int (-a)), .fz (.int (-b))]) := by
    intro _ _
    have q : (kwF 2 0 [(0, 0), (0, 1)] [.fz (.int 1)] (h_fraction 1)) [.fz (.int (-a)), .fz (.int (-b))] = kStar2 [.fz (.int (-a)), .fz (.int (-b))] (fnF 2 3 (mdL none) (m_fraction (h_fraction 0)) [.fz (.int (-a)), .fz (.int (-b))]) := rfl
    rw [q, e]
    rfl
  have e2 := e1 [.fz .none, .fz .none] rfl
  have d : decide (b < 0) = true := decide_eq_true h
  have cl : callF none (kwF 2 0 [(0, 0), (0, 1)] [.fz (.int 1)] (h_fraction 1)) (consF (negF (varF 0)) (consF (negF (varF 1)) (nilF))) (nilF) [some (.fz (.int a)), some (.fz (.int b)), none] = some (.fz (fD x), [some (.fz (.int a)), some (.fz (.int b)), none]) := by
    generalize kwF 2 0 [(0, 0), (0, 1)] [.fz (.int 1)] (h_fraction 1) = K at *
    simp only [e_seq, e_kseq, e_kseqR, e_kseqB, e_kseqC, e_skip, e_if, e_ifT, e_ifF, e_ret, e_kret, e_kretL, e_kretD, e_kretA, e_kretA2, e_set, e_kset, e_ksetL, e_ksetD, e_ksetS, e_ksetA, e_ksetA2, e_expr, e_knx, e_cvF, e_cvS, e_cvL, e_cvD, e_cfF, e_cfL, e_cdF, e_cdL, e_ckD, e_clL, e_pkF, e_pkL, e_pkA, e_fzF, e_fzL, e_fzA, e_var, e_c, e_op, e_o1, e_o2, e_o3, e_o4, e_tst, e_kt, e_and, e_andT, e_andF, e_or, e_orT, e_orF, e_not, e_knot, e_andV, e_andVT, e_andVF, e_orV, e_orVT, e_orVF, e_notV, e_knotV, e_ifE, e_ifET, e_ifEF, e_neg, e_kneg, e_nil, e_cons, e_a1F, e_a1S, e_a1L, e_a1A, e_a2, e_fa0, e_fa1, e_fa2, e_fa3, e_tup, e_ktup, e_ktup2, e_lst, e_klst, e_klst2, e_pa0, e_pa1, e_pa2, e_pa3, e_cl, e_kcl, e_kcl2, e_dget, e_d1, e_d2, e_d2i, e_d3, e_d4, e_dput, e_p1, e_p2, e_p3, e_p4, e_p5, e_knil, e_kcons, e_k1, e_k2, e_k3, e_disp, e_k4, e_nop, e_somep, e_ksome, e_sl, e_s1, e_s2, e_s3, e_gnm, e_gtp, e_gnil, e_gcons, e_kg, e_asg, e_as1, e_as2, e_as3, e_par, e_pr, e_pr2, e_it, e_i1, e_i2L, e_i2T, e_r1, e_kr1, e_for, e_kfor, e_l0, e_l1, e_l2, e_l3, e_l3c, e_l3b, e_l3r, e_w1, e_wT, e_wF, e_w2, e_fn, e_kfn, e_kfnN, e_kfn2, e_ent, e_out0, e_outN, e_outT, e_outF, e_kout, e_md0, e_md1, e_md2, e_md3, e_call, e_c1, e_c2, e_c3, e_c4, e_en, e_en0, e_es0, e_es, e_e1, e_e0, e_e2, e_e3, e_kp, e_kpL, e_kpD, e_fsS, e_fsF, e_fsA, e_fsL, e_kfr, e_le0, e_le1, e_le2, e_comp, e_lc, e_lc2, e_m0, e_m1, e_m2, e_m3, e_m3F, e_m4, e_m5, e_yes, e_wi0, e_wi1, e_star, e_star2, e_star3, e_isi, e_is1, e_is2, e_orE, e_orE1, e_orE2, e_app, e_ap1, e_ap2, e_ap3, e_ap4, e_ap5, e_ext, e_ex1, e_ex2, e_ex3, e_ex4, e_ex5, e_ch, e_ch1, e_ch2, e_ch3, e_ch4, e_ch5, List.length_cons, List.length_nil, List.map_cons, List.map_nil, Nat.reduceAdd, Nat.reduceSub, List.replicate_succ, List.replicate_zero, List.cons_append, List.nil_append, List.append_nil, List.getElem?_cons_zero, List.getElem?_cons_succ, List.set_cons_zero, List.set_cons_succ, ags, ite_true, if_true, g_add, g_sub, g_lt, g_le, g_gt, g_ge, g_eqI, g_neI, g_abs, g_gcd, g_is, g_isNot, ok0, ok1, ok2, ok3, ok4, ok5, ok6, ok7, ok8, ok9, ok10, ok11, ok12, ok13, ok14, ok15, e2]
  have t : tstF (opF gLt (varF 1) (cF (.int 0))) [some (.fz (.int a)), some (.fz (.int b)), none] = some (true, [some (.fz (.int a)), some (.fz (.int b)), none]) := by
    simp only [e_seq, e_kseq, e_kseqR, e_kseqB, e_kseqC, e_skip, e_if, e_ifT, e_ifF, e_ret, e_kret, e_kretL, e_kretD, e_kretA, e_kretA2, e_set, e_kset, e_ksetL, e_ksetD, e_ksetS, e_ksetA, e_ksetA2, e_expr, e_knx, e_cvF, e_cvS, e_cvL, e_cvD, e_cfF, e_cfL, e_cdF, e_cdL, e_ckD, e_clL, e_pkF, e_pkL, e_pkA, e_fzF, e_fzL, e_fzA, e_var, e_c, e_op, e_o1, e_o2, e_o3, e_o4, e_tst, e_kt, e_and, e_andT, e_andF, e_or, e_orT, e_orF, e_not, e_knot, e_andV, e_andVT, e_andVF, e_orV, e_orVT, e_orVF, e_notV, e_knotV, e_ifE, e_ifET, e_ifEF, e_neg, e_kneg, e_nil, e_cons, e_a1F, e_a1S, e_a1L, e_a1A, e_a2, e_fa0, e_fa1, e_fa2, e_fa3, e_tup, e_ktup, e_ktup2, e_lst, e_klst, e_klst2, e_pa0, e_pa1, e_pa2, e_pa3, e_cl, e_kcl, e_kcl2, e_dget, e_d1, e_d2, e_d2i, e_d3, e_d4, e_dput, e_p1, e_p2, e_p3, e_p4, e_p5, e_knil, e_kcons, e_k1, e_k2, e_k3, e_disp, e_k4, e_nop, e_somep, e_ksome, e_sl, e_s1, e_s2, e_s3, e_gnm, e_gtp, e_gnil, e_gcons, e_kg, e_asg, e_as1, e_as2, e_as3, e_par, e_pr, e_pr2, e_it, e_i1, e_i2L, e_i2T, e_r1, e_kr1, e_for, e_kfor, e_l0, e_l1, e_l2, e_l3, e_l3c, e_l3b, e_l3r, e_w1, e_wT, e_wF, e_w2, e_fn, e_kfn, e_kfnN, e_kfn2, e_ent, e_out0, e_outN, e_outT, e_outF, e_kout, e_md0, e_md1, e_md2, e_md3, e_call, e_c1, e_c2, e_c3, e_c4, e_en, e_en0, e_es0, e_es, e_e1, e_e0, e_e2, e_e3, e_kp, e_kpL, e_kpD, e_fsS, e_fsF, e_fsA, e_fsL, e_kfr, e_le0, e_le1, e_le2, e_comp, e_lc, e_lc2, e_m0, e_m1, e_m2, e_m3, e_m3F, e_m4, e_m5, e_yes, e_wi0, e_wi1, e_star, e_star2, e_star3, e_isi, e_is1, e_is2, e_orE, e_orE1, e_orE2, e_app, e_ap1, e_ap2, e_ap3, e_ap4, e_ap5, e_ext, e_ex1, e_ex2, e_ex3, e_ex4, e_ex5, e_ch, e_ch1, e_ch2, e_ch3, e_ch4, e_ch5, List.length_cons, List.length_nil, List.map_cons, List.map_nil, Nat.reduceAdd, Nat.reduceSub, List.replicate_succ, List.replicate_zero, List.cons_append, List.nil_append, List.append_nil, List.getElem?_cons_zero, List.getElem?_cons_succ, List.set_cons_zero, List.set_cons_succ, ags, ite_true, if_true, g_add, g_sub, g_lt, g_le, g_gt, g_ge, g_eqI, g_neI, g_abs, g_gcd, g_is, g_isNot, ok0, ok1, ok2, ok3, ok4, ok5, ok6, ok7, ok8, ok9, ok10, ok11, ok12, ok13, ok14, ok15, d]
  rw [e0]
  have b1 : fnF 2 3 (mdL none) (m_fraction (h_fraction 1)) [.fz (.int a), .fz (.int b)] = some (.fz (fD x), [.fz (.int a), .fz (.int b)]) := by
    unfold m_fraction
    exact fnE (ρ := [some (.fz (.int a)), some (.fz (.int b)), none]) rfl (seq_rt (if_yes t (ret_ok cl))) rfl
  rw [b1]
  rfl
theorem frac_body (r : FF) (a : Int) (n : Nat) (h : n ≠ 0) (hb : n < 2 ^ 8000) : fnF 2 3 (mdL none) (m_fraction r) [.fz (.int a), .fz (.int (n : Int))] = some (.fz (fD (Rat.normalize a n h)), [.fz (.int a), .fz (.int (n : Int))]) := by
  have h2 : ¬ (n : Int) < 0 := by omega
  have e2 : ((n : Int) / ((Nat.gcd a.natAbs n : Nat) : Int)) = (((Rat.normalize a n h).den : Nat) : Int) := by rw [nz_den]; rfl
  have g1 : gGcd [.int a, .int (n : Int)] = some (.fz (.int ((Nat.gcd a.natAbs n : Nat) : Int))) := rfl
  simp only [m_fraction, e_seq, e_kseq, e_kseqR, e_kseqB, e_kseqC, e_skip, e_if, e_ifT, e_ifF, e_ret, e_kret, e_kretL, e_kretD, e_kretA, e_kretA2, e_set, e_kset, e_ksetL, e_ksetD, e_ksetS, e_ksetA, e_ksetA2, e_expr, e_knx, e_cvF, e_cvS, e_cvL, e_cvD, e_cfF, e_cfL, e_cdF, e_cdL, e_ckD, e_clL, e_pkF, e_pkL, e_pkA, e_fzF, e_fzL, e_fzA, e_var, e_c, e_op, e_o1, e_o2, e_o3, e_o4, e_tst, e_kt, e_and, e_andT, e_andF, e_or, e_orT, e_orF, e_not, e_knot, e_andV, e_andVT, e_andVF, e_orV, e_orVT, e_orVF, e_notV, e_knotV, e_ifE, e_ifET, e_ifEF, e_neg, e_kneg, e_nil, e_cons, e_a1F, e_a1S, e_a1L, e_a1A, e_a2, e_fa0, e_fa1, e_fa2, e_fa3, e_tup, e_ktup, e_ktup2, e_lst, e_klst, e_klst2, e_pa0, e_pa1, e_pa2, e_pa3, e_cl, e_kcl, e_kcl2, e_dget, e_d1, e_d2, e_d2i, e_d3, e_d4, e_dput, e_p1, e_p2, e_p3, e_p4, e_p5, e_knil, e_kcons, e_k1, e_k2, e_k3, e_disp, e_k4, e_nop, e_somep, e_ksome, e_sl, e_s1, e_s2, e_s3, e_gnm, e_gtp, e_gnil, e_gcons, e_kg, e_asg, e_as1, e_as2, e_as3, e_par, e_pr, e_pr2, e_it, e_i1, e_i2L, e_i2T, e_r1, e_kr1, e_for, e_kfor, e_l0, e_l1, e_l2, e_l3, e_l3c, e_l3b, e_l3r, e_w1, e_wT, e_wF, e_w2, e_fn, e_kfn, e_kfnN, e_kfn2, e_ent, e_out0, e_outN, e_outT, e_outF, e_kout, e_md0, e_md1, e_md2, e_md3, e_call, e_c1, e_c2, e_c3, e_c4, e_en, e_en0, e_es0, e_es, e_e1, e_e0, e_e2, e_e3, e_kp, e_kpL, e_kpD, e_fsS, e_fsF, e_fsA, e_fsL, e_kfr, e_le0, e_le1, e_le2, e_comp, e_lc, e_lc2, e_m0, e_m1, e_m2, e_m3, e_m3F, e_m4, e_m5, e_yes, e_wi0, e_wi1, e_star, e_star2, e_star3, e_isi, e_is1, e_is2, e_orE, e_orE1, e_orE2, e_app, e_ap1, e_ap2, e_ap3, e_ap4, e_ap5, e_ext, e_ex1, e_ex2, e_ex3, e_ex4, e_ex5, e_ch, e_ch1, e_ch2, e_ch3, e_ch4, e_ch5, List.length_cons, List.length_nil, List.map_cons, List.map_nil, Nat.reduceAdd, Nat.reduceSub, List.replicate_succ, List.replicate_zero, List.cons_append, List.nil_append, List.append_nil, List.getElem?_cons_zero, List.getElem?_cons_succ, List.set_cons_zero, List.set_cons_succ, ags, ite_true, if_true, g_add, g_sub, g_lt, g_le, g_gt, g_ge, g_eqI, g_neI, g_abs, g_gcd, g_is, g_isNot, ok0, ok1, ok2, ok3, ok4, ok5, ok6, ok7, ok8, ok9, ok10, ok11, ok12, ok13, ok14, ok15, h2, decide_false, -g_gcd, g1, g_div (gp h) (glog h hb), e2]
  rw [← nz_num a n h]
  rfl
theorem frac_inv {a : Rat} (h : Sz 4000 a) (h0 : a.num ≠ 0) : g_fraction_2 [.fz (.int (a.den : Int)), .fz (.int a.num)] = some (.fz (fD a⁻¹), [.fz (.int (a.den : Int)), .fz (.int a.num)]) := by
  have l : a.num.natAbs < 2 ^ 8000 := Nat.lt_of_lt_of_le h.1 (Nat.pow_le_pow_right (by decide) (by decide))
  rcases Int.lt_or_lt_of_ne h0 with c | c
  · refine frac_neg c fun r => ?_
    have e : -a.num = ((a.num.natAbs : Nat) : Int) := by omega
    have b := frac_body r (-(a.den : Int)) a.num.natAbs (by omega) l
    rw [inv_neg c, ← e] at b
    exact b
  · have e : a.num = ((a.num.natAbs : Nat) : Int) := by omega
    have b := fraction_nz (a.den : Int) a.num.natAbs (by omega) l
    rw [inv_pos c, ← e] at b
    exact b
theorem sum0 : g_fraction_sum_s [] = some (.fz (fD 0), []) := by kernel_rfl
theorem prod0 : g_fraction_product_s [] = some (.fz (fD 1), []) := by kernel_rfl
theorem three_mem {α : Type} {P : α → Prop} {p q r : α} (h : P p) (h2 : P q) (h3 : P r) : ∀ x ∈ [p, q, r], P x := fun x hx => by
  rcases List.mem_cons.mp hx with e | hx
  · subst e; exact h
  · exact two_mem h2 h3 x hx
theorem sum3 {a b c : Rat} (h : Sz 30 a) (h2 : Sz 30 b) (h3 : Sz 30 c) : g_fraction_sum_s [.fz (fD a), .fz (fD b), .fz (fD c)] = some (.fz (fD (a + b + c)), [.fz (fD a), .fz (fD b), .fz (fD c)]) := by
  have e := fsum_ok [a, b, c] (three_mem h h2 h3) (by show 1 + (30 + 1) * 3 + 30 ≤ 4000; decide)
  have z : (0 : Rat) + a = a := by grind
  simp only [List.map_cons, List.map_nil, List.foldl_cons, List.foldl_nil, z] at e
  simp only [g_fraction_sum_s, e_seq, e_kseq, e_kseqR, e_kseqB, e_kseqC, e_skip, e_if, e_ifT, e_ifF, e_ret, e_kret, e_kretL, e_kretD, e_kretA, e_kretA2, e_set, e_kset, e_ksetL, e_ksetD, e_ksetS, e_ksetA, e_ksetA2, e_expr, e_knx, e_cvF, e_cvS, e_cvL, e_cvD, e_cfF, e_cfL, e_cdF, e_cdL, e_ckD, e_clL, e_pkF, e_pkL, e_pkA, e_fzF, e_fzL, e_fzA, e_var, e_c, e_op, e_o1, e_o2, e_o3, e_o4, e_tst, e_kt, e_and, e_andT, e_andF, e_or, e_orT, e_orF, e_not, e_knot, e_andV, e_andVT, e_andVF, e_orV, e_orVT, e_orVF, e_notV, e_knotV, e_ifE, e_ifET, e_ifEF, e_neg, e_kneg, e_nil, e_cons, e_a1F, e_a1S, e_a1L, e_a1A, e_a2, e_fa0, e_fa1, e_fa2, e_fa3, e_tup, e_ktup, e_ktup2, e_lst, e_klst, e_klst2, e_pa0, e_pa1, e_pa2, e_pa3, e_cl, e_kcl, e_kcl2, e_dget, e_d1, e_d2, e_d2i, e_d3, e_d4, e_dput, e_p1, e_p2, e_p3, e_p4, e_p5, e_knil, e_kcons, e_k1, e_k2, e_k3, e_disp, e_k4, e_nop, e_somep, e_ksome, e_sl, e_s1, e_s2, e_s3, e_gnm, e_gtp, e_gnil, e_gcons, e_kg, e_asg, e_as1, e_as2, e_as3, e_par, e_pr, e_pr2, e_it, e_i1, e_i2L, e_i2T, e_r1, e_kr1, e_for, e_kfor, e_l0, e_l1, e_l2, e_l3, e_l3c, e_l3b, e_l3r, e_w1, e_wT, e_wF, e_w2, e_fn, e_kfn, e_kfnN, e_kfn2, e_ent, e_out0, e_outN, e_outT, e_outF, e_kout, e_md0, e_md1, e_md2, e_md3, e_call, e_c1, e_c2, e_c3, e_c4, e_en, e_en0, e_es0, e_es, e_e1, e_e0, e_e2, e_e3, e_kp, e_kpL, e_kpD, e_fsS, e_fsF, e_fsA, e_fsL, e_kfr, e_le0, e_le1, e_le2, e_comp, e_lc, e_lc2, e_m0, e_m1, e_m2, e_m3, e_m3F, e_m4, e_m5, e_yes, e_wi0, e_wi1, e_star, e_star2, e_star3, e_isi, e_is1, e_is2, e_orE, e_orE1, e_orE2, e_app, e_ap1, e_ap2, e_ap3, e_ap4, e_ap5, e_ext, e_ex1, e_ex2, e_ex3, e_ex4, e_ex5, e_ch, e_ch1, e_ch2, e_ch3, e_ch4, e_ch5, List.length_cons, List.length_nil, List.map_cons, List.map_nil, Nat.reduceAdd, Nat.reduceSub, List.replicate_succ, List.replicate_zero, List.cons_append, List.nil_append, List.append_nil, List.getElem?_cons_zero, List.getElem?_cons_succ, List.set_cons_zero, List.set_cons_succ, ags, ite_true, if_true, g_add, g_sub, g_lt, g_le, g_gt, g_ge, g_eqI, g_neI, g_abs, g_gcd, g_is, g_isNot, ok0, ok1, ok2, ok3, ok4, ok5, ok6, ok7, ok8, ok9, ok10, ok11, ok12, ok13, ok14, ok15, e]
theorem prod3 {a b c : Rat} (h : Sz 30 a) (h2 : Sz 30 b) (h3 : Sz 30 c) : g_fraction_product_s [.fz (fD a), .fz (fD b), .fz (fD c)] = some (.fz (fD (a * b * c)), [.fz (fD a), .fz (fD b), .fz (fD c)]) := by
  have e := fprod_ok [a, b, c] (three_mem h h2 h3) (by show 1 + 30 * 3 + 30 ≤ 4000; decide)
  have z : (1 : Rat) * a = a := by grind
  simp only [List.map_cons, List.map_nil, List.foldl_cons, List.foldl_nil, z] at e
  simp only [g_fraction_product_s, e_seq, e_kseq, e_kseqR, e_kseqB, e_kseqC, e_skip, e_if, e_ifT, e_ifF, e_ret, e_kret, e_kretL, e_kretD, e_kretA, e_kretA2, e_set, e_kset, e_ksetL, e_ksetD, e_ksetS, e_ksetA, e_ksetA2, e_expr, e_knx, e_cvF, e_cvS, e_cvL, e_cvD, e_cfF, e_cfL, e_cdF, e_cdL, e_ckD, e_clL, e_pkF, e_pkL, e_pkA, e_fzF, e_fzL, e_fzA, e_var, e_c, e_op, e_o1, e_o2, e_o3, e_o4, e_tst, e_kt, e_and, e_andT, e_andF, e_or, e_orT, e_orF, e_not, e_knot, e_andV, e_andVT, e_andVF, e_orV, e_orVT, e_orVF, e_notV, e_knotV, e_ifE, e_ifET, e_ifEF, e_neg, e_kneg, e_nil, e_cons, e_a1F, e_a1S, e_a1L, e_a1A, e_a2, e_fa0, e_fa1, e_fa2, e_fa3, e_tup, e_ktup, e_ktup2, e_lst, e_klst, e_klst2, e_pa0, e_pa1, e_pa2, e_pa3, e_cl, e_kcl, e_kcl2, e_dget, e_d1, e_d2, e_d2i, e_d3, e_d4, e_dput, e_p1, e_p2, e_p3, e_p4, e_p5, e_knil, e_kcons, e_k1, e_k2, e_k3, e_disp, e_k4, e_nop, e_somep, e_ksome, e_sl, e_s1, e_s2, e_s3, e_gnm, e_gtp, e_gnil, e_gcons, e_kg, e_asg, e_as1, e_as2, e_as3, e_par, e_pr, e_pr2, e_it, e_i1, e_i2L, e_i2T, e_r1, e_kr1, e_for, e_kfor, e_l0, e_l1, e_l2, e_l3, e_l3c, e_l3b, e_l3r, e_w1, e_wT, e_wF, e_w2, e_fn, e_kfn, e_kfnN, e_kfn2, e_ent, e_out0, e_outN, e_outT, e_outF, e_kout, e_md0, e_md1, e_md2, e_md3, e_call, e_c1, e_c2, e_c3, e_c4, e_en, e_en0, e_es0, e_es, e_e1, e_e0, e_e2, e_e3, e_kp, e_kpL, e_kpD, e_fsS, e_fsF, e_fsA, e_fsL, e_kfr, e_le0, e_le1, e_le2, e_comp, e_lc, e_lc2, e_m0, e_m1, e_m2, e_m3, e_m3F, e_m4, e_m5, e_yes, e_wi0, e_wi1, e_star, e_star2, e_star3, e_isi, e_is1, e_is2, e_orE, e_orE1, e_orE2, e_app, e_ap1, e_ap2, e_ap3, e_ap4, e_ap5, e_ext, e_ex1, e_ex2, e_ex3, e_ex4, e_ex5, e_ch, e_ch1, e_ch2, e_ch3, e_ch4, e_ch5, List.length_cons, List.length_nil, List.map_cons, List.map_nil, Nat.reduceAdd, Nat.reduceSub, List.replicate_succ, List.replicate_zero, List.cons_append, List.nil_append, List.append_nil, List.getElem?_cons_zero, List.getElem?_cons_succ, List.set_cons_zero, List.set_cons_succ, ags, ite_true, if_true, g_add, g_sub, g_lt, g_le, g_gt, g_ge, g_eqI, g_neI, g_abs, g_gcd, g_is, g_isNot, ok0, ok1, ok2, ok3, ok4, ok5, ok6, ok7, ok8, ok9, ok10, ok11, ok12, ok13, ok14, ok15, e]
theorem nef (a : Rat) : gNe (fD a) (fD a) = some (.fz (.bool false)) := by rw [g_nef, decide_eq_true rfl]; rfl
theorem eqf (a : Rat) : gEq (fD a) (fD a) = some (.fz (.bool true)) := by rw [g_eqf, decide_eq_true rfl]
theorem e_nil2 : gEq (.list []) (.list []) = some (.fz (.bool true)) := rfl
theorem su {p q r : Rat} (h : Sz M9 p) (h2 : Sz M9 q) (e : p + q = r) : F2 g_fraction_sum_s (fD p) (fD q) (fD r) := by subst e; exact sum2 h h2
theorem pr {p q r : Rat} (h : Sz M9 p) (h2 : Sz M9 q) (e : p * q = r) : F2 g_fraction_product_s (fD p) (fD q) (fD r) := by subst e; exact prod2 h h2
theorem three_ok {a b c : Rat} (h : Sz 30 a) (h2 : Sz 30 b) (h3 : Sz 30 c) : g__law_three_right_3 [.fz (fD a), .fz (fD b), .fz (fD c)] = some (.fz (.bool true), [.fz (fD a), .fz (fD b), .fz (fD c)]) := by
  have k : ∀ {x : Rat}, Sz 30 x → Sz M9 x := fun h => h.up (by decide)
  have ab : Sz M9 (a + b) := (h.add h2).up (by decide)
  have bc : Sz M9 (b + c) := (h2.add h3).up (by decide)
  have pab : Sz M9 (a * b) := (h.mul h2).up (by decide)
  have pac : Sz M9 (a * c) := (h.mul h3).up (by decide)
  have pbc : Sz M9 (b * c) := (h2.mul h3).up (by decide)
  have m1 : Sz 1 (-1) := ⟨by decide, by decide⟩
  have z0 : Sz 30 (0 : Rat) := sz01 (by decide)
  have z1 : Sz 30 (1 : Rat) := sz11 (by decide)
  have pm : Sz M9 (-1 * a) := (m1.mul h).up (by decide)
  unfold g__law_three_right_3 g__law_three_right m__law_three_right
  refine fnE (ρ := [some (.fz (fD a)), some (.fz (fD b)), some (.fz (fD c)), some (.fz (fD (a + b))), some (.fz (fD (a * b))), none]) rfl ?_ rfl
  refine seq_ok (u1 (sum2 (k h) (k h2)) (prod2 (k h) (k h2))) ?_
  refine seq_ok (if_no (u2 (su (k h2) (k h) (by grind)) (pr (k h2) (k h) (by grind)) (nef _) (nef _))) ?_
  refine seq_ok (if_no (u3 (sum2 ab (k h3)) (sum2 (k h2) (k h3)) (su (k h) bc (by grind)) (sum3 h h2 h3) (eqf _))) ?_
  refine seq_ok (if_no (u4 (V := fD (c * b * a)) (pr pab (k h3) (by grind)) (prod3 h3 h2 h) (nef _))) ?_
  refine seq_ok (if_no (u5 (prod2 ab (k h3)) (prod2 (k h) (k h3)) (prod2 (k h2) (k h3)) (su pac pbc (by grind)) (nef _))) ?_
  refine seq_ok (if_no (u6 sum0 prod0 (su (k h) (k z0) (by grind)) (pr (k h) (k z1) (by grind)) (nef _))) ?_
  refine seq_ok (if_no (u7 (N := fD (-1 * a)) (prod2 (p := -1) (m1.up (by decide)) (k h)) (su (r := 0) (k h) pm (by grind)) (pr (r := 0) (q := 0) (k h) (k z0) (by grind)) (nef 0))) ?_
  refine seq_ok (ρ1 := [some (.fz (fD a)), some (.fz (fD b)), some (.fz (fD c)), some (.fz (fD (a + b))), some (.fz (fD (a * b))), none]) (if_no ?_) (ret_ok (u9 (sum3 h h2 h3) (isfrac_ok _) (isfrac_ok _) (isfrac_ok _) e_nil2))
  by_cases c0 : a.num = 0
  · exact u8a f_0 c0
  · have ne : a ≠ 0 := fun z => c0 (by rw [z]; rfl)
    have si : Sz 30 a⁻¹ := by
      rcases Int.lt_or_lt_of_ne c0 with c | c
      · rw [← inv_neg c]
        exact nz_sz (j := 0) _ (by rw [Int.natAbs_neg]; exact den_lt h) h.1
      · rw [← inv_pos c]
        exact nz_sz (j := 0) _ (den_lt h) h.1
    exact u8b f_0 c0 f_1 (frac_inv (h.up (by decide)) c0) (pr (r := 1) (k h) (k si) (Rat.mul_inv_cancel a ne)) (nef 1)
end LW

namespace LW
open L2 PySem PySem.Spec PyProof.Rows DL RT
set_option maxHeartbeats 0
/-! ### order -/
theorem cmp_cases (a b : Rat) : (a < b ∧ cmpR a b = -1) ∨ (a = b ∧ cmpR a b = 0) ∨ (b < a ∧ cmpR a b = 1) := by
  unfold cmpR
  by_cases h : a = b
  · exact .inr (.inl ⟨h, if_pos h⟩)
  · rw [if_neg h]
    by_cases d : a < b
    · exact .inl ⟨d, if_pos d⟩
    · exact .inr (.inr ⟨by grind, if_neg d⟩)
theorem cmp_lt1 {a b : Rat} (h : a < b) : cmpR a b = -1 := by rcases cmp_cases a b with ⟨_, e⟩ | ⟨x, _⟩ | ⟨x, _⟩ <;> first | exact e | grind
theorem cmp_eq0 {a b : Rat} (h : a = b) : cmpR a b = 0 := by rcases cmp_cases a b with ⟨x, _⟩ | ⟨_, e⟩ | ⟨x, _⟩ <;> first | exact e | grind
theorem cmp_gt1 {a b : Rat} (h : b < a) : cmpR a b = 1 := by rcases cmp_cases a b with ⟨x, _⟩ | ⟨x, _⟩ | ⟨_, e⟩ <;> first | exact e | grind
theorem cmp_swap (a b : Rat) : cmpR b a = 0 - cmpR a b := by
  rcases cmp_cases a b with ⟨h, e⟩ | ⟨h, e⟩ | ⟨h, e⟩
  · rw [e, cmp_gt1 h]; decide
  · rw [e, cmp_eq0 h.symm]; decide
  · rw [e, cmp_lt1 h]; decide
theorem cmp_add (a b c : Rat) : cmpR (a + c) (b + c) = cmpR a b := by
  rcases cmp_cases a b with ⟨h, e⟩ | ⟨h, e⟩ | ⟨h, e⟩
  · rw [e, cmp_lt1 (by grind)]
  · rw [e, cmp_eq0 (by grind)]
  · rw [e, cmp_gt1 (by grind)]
theorem cmp_sub (a b : Rat) : cmpR (a + -1 * b) 0 = cmpR a b := by
  rcases cmp_cases a b with ⟨h, e⟩ | ⟨h, e⟩ | ⟨h, e⟩
  · rw [e, cmp_lt1 (by grind)]
  · rw [e, cmp_eq0 (by grind)]
  · rw [e, cmp_gt1 (by grind)]
theorem mul_lt {a b c : Rat} (h : a < b) (hc : 0 < c) : a * c < b * c := by
  have := mulp hc h
  grind
theorem mul_gt {a b c : Rat} (h : a < b) (hc : c < 0) : b * c < a * c := by
  have := mulp (a := -c) (by grind) h
  grind
theorem cmp_mul (a b c : Rat) : cmpR (a * c) (b * c) = cmpR a b * cmpR c 0 := by
  rcases cmp_cases a b with ⟨h, e⟩ | ⟨h, e⟩ | ⟨h, e⟩
  · rcases cmp_cases c 0 with ⟨h2, e2⟩ | ⟨h2, e2⟩ | ⟨h2, e2⟩
    · rw [e, e2, cmp_gt1 (mul_gt h h2)]; decide
    · rw [e, e2, cmp_eq0 (by rw [h2]; grind)]; decide
    · rw [e, e2, cmp_lt1 (mul_lt h h2)]; decide
  · rw [e, cmp_eq0 (by rw [h]), Int.zero_mul]
  · rcases cmp_cases c 0 with ⟨h2, e2⟩ | ⟨h2, e2⟩ | ⟨h2, e2⟩
    · rw [e, e2, cmp_lt1 (mul_gt h h2)]; decide
    · rw [e, e2, cmp_eq0 (by rw [h2]; grind)]; decide
    · rw [e, e2, cmp_gt1 (mul_lt h h2)]; decide
theorem eq_bb (x : Bool) : gEq (.bool x) (.bool x) = some (.fz (.bool true)) := by cases x <;> rfl
theorem ne_bb (x : Bool) : gNe (.bool x) (.bool x) = some (.fz (.bool false)) := by cases x <;> rfl
theorem in3 (a b : Rat) : gNotInT (.int (cmpR a b)) (.tuple [.int (-1), .int 0, .int 1]) = some (.fz (.bool false)) := by
  rcases cmp_cases a b with ⟨_, e⟩ | ⟨_, e⟩ | ⟨_, e⟩ <;> rw [e] <;> rfl
theorem small3 (a b : Rat) : (cmpR a b).natAbs < 2 ^ 4000 := by
  have : (cmpR a b).natAbs ≤ 1 := by rcases cmp_cases a b with ⟨_, e⟩ | ⟨_, e⟩ | ⟨_, e⟩ <;> rw [e] <;> decide
  exact Nat.lt_of_le_of_lt this (by decide)
section
variable {A B C : PyData} {t : Int} {x : Option S}
theorem o1 (h : F2 g_compared_2 A B (.int t)) : setF 3 (callF none g_compared_2 (consF (varF 0) (consF (varF 1) (nilF))) (nilF)) [some (.fz A), some (.fz B), some (.fz C), none] = some (.nx [some (.fz A), some (.fz B), some (.fz C), some (.fz (.int t))]) := by
  simp only [e_seq, e_kseq, e_kseqR, e_kseqB, e_kseqC, e_skip, e_if, e_ifT, e_ifF, e_ret, e_kret, e_kretL, e_kretD, e_kretA, e_kretA2, e_set, e_kset, e_ksetL, e_ksetD, e_ksetS, e_ksetA, e_ksetA2, e_expr, e_knx, e_cvF, e_cvS, e_cvL, e_cvD, e_cfF, e_cfL, e_cdF, e_cdL, e_ckD, e_clL, e_pkF, e_pkL, e_pkA, e_fzF, e_fzL, e_fzA, e_var, e_c, e_op, e_o1, e_o2, e_o3, e_o4, e_tst, e_kt, e_and, e_andT, e_andF, e_or, e_orT, e_orF, e_not, e_knot, e_andV, e_andVT, e_andVF, e_orV, e_orVT, e_orVF, e_notV, e_knotV, e_ifE, e_ifET, e_ifEF, e_neg, e_kneg, e_nil, e_cons, e_a1F, e_a1S, e_a1L, e_a1A, e_a2, e_fa0, e_fa1, e_fa2, e_fa3, e_tup, e_ktup, e_ktup2, e_lst, e_klst, e_klst2, e_pa0, e_pa1, e_pa2, e_pa3, e_cl, e_kcl, e_kcl2, e_dget, e_d1, e_d2, e_d2i, e_d3, e_d4, e_dput, e_p1, e_p2, e_p3, e_p4, e_p5, e_knil, e_kcons, e_k1, e_k2, e_k3, e_disp, e_k4, e_nop, e_somep, e_ksome, e_sl, e_s1, e_s2, e_s3, e_gnm, e_gtp, e_gnil, e_gcons, e_kg, e_asg, e_as1, e_as2, e_as3, e_par, e_pr, e_pr2, e_it, e_i1, e_i2L, e_i2T, e_r1, e_kr1, e_for, e_kfor, e_l0, e_l1, e_l2, e_l3, e_l3c, e_l3b, e_l3r, e_w1, e_wT, e_wF, e_w2, e_fn, e_kfn, e_kfnN, e_kfn2, e_ent, e_out0, e_outN, e_outT, e_outF, e_kout, e_md0, e_md1, e_md2, e_md3, e_call, e_c1, e_c2, e_c3, e_c4, e_en, e_en0, e_es0, e_es, e_e1, e_e0, e_e2, e_e3, e_kp, e_kpL, e_kpD, e_fsS, e_fsF, e_fsA, e_fsL, e_kfr, e_le0, e_le1, e_le2, e_comp, e_lc, e_lc2, e_m0, e_m1, e_m2, e_m3, e_m3F, e_m4, e_m5, e_yes, e_wi0, e_wi1, e_star, e_star2, e_star3, e_isi, e_is1, e_is2, e_orE, e_orE1, e_orE2, e_app, e_ap1, e_ap2, e_ap3, e_ap4, e_ap5, e_ext, e_ex1, e_ex2, e_ex3, e_ex4, e_ex5, e_ch, e_ch1, e_ch2, e_ch3, e_ch4, e_ch5, List.length_cons, List.length_nil, List.map_cons, List.map_nil, Nat.reduceAdd, Nat.reduceSub, List.replicate_succ, List.replicate_zero, List.cons_append, List.nil_append, List.append_nil, List.getElem?_cons_zero, List.getElem?_cons_succ, List.set_cons_zero, List.set_cons_succ, ags, ite_true, if_true, g_add, g_sub, g_lt, g_le, g_gt, g_ge, g_eqI, g_neI, g_abs, g_gcd, g_is, g_isNot, ok0, ok1, ok2, ok3, ok4, ok5, ok6, ok7, ok8, ok9, ok10, ok11, ok12, ok13, ok14, ok15, h]
theorem o2 {u : Bool} (h : F2 g_compared_2 B A (.int (0 - t))) (n1 : gNotInT (.int t) (.tuple [.int (-1), .int 0, .int 1]) = some (.fz (.bool false))) (n2 : gEq A B = some (.fz (.bool u))) (n3 : decide (t = 0) = u) (n4 : gNe (.bool u) (.bool u) = some (.fz (.bool false))) :
    (orF (tstF (opF gNotInT (varF 3) (tupF (consF (negF (cF (.int 1))) (consF (cF (.int 0)) (consF (cF (.int 1)) (nilF))))))) (orF (tstF (opF gNe (callF none g_compared_2 (consF (varF 1) (consF (varF 0) (nilF))) (nilF)) (opF gSub (cF (.int 0)) (varF 3)))) (tstF (opF gNe (opF gEq (varF 3) (cF (.int 0))) (opF gEq (varF 0) (varF 1)))))) [some (.fz A), some (.fz B), some (.fz C), some (.fz (.int t))] = some (false, [some (.fz A), some (.fz B), some (.fz C), some (.fz (.int t))]) := by
  simp only [e_seq, e_kseq, e_kseqR, e_kseqB, e_kseqC, e_skip, e_if, e_ifT, e_ifF, e_ret, e_kret, e_kretL, e_kretD, e_kretA, e_kretA2, e_set, e_kset, e_ksetL, e_ksetD, e_ksetS, e_ksetA, e_ksetA2, e_expr, e_knx, e_cvF, e_cvS, e_cvL, e_cvD, e_cfF, e_cfL, e_cdF, e_cdL, e_ckD, e_clL, e_pkF, e_pkL, e_pkA, e_fzF, e_fzL, e_fzA, e_var, e_c, e_op, e_o1, e_o2, e_o3, e_o4, e_tst, e_kt, e_and, e_andT, e_andF, e_or, e_orT, e_orF, e_not, e_knot, e_andV, e_andVT, e_andVF, e_orV, e_orVT, e_orVF, e_notV, e_knotV, e_ifE, e_ifET, e_ifEF, e_neg, e_kneg, e_nil, e_cons, e_a1F, e_a1S, e_a1L, e_a1A, e_a2, e_fa0, e_fa1, e_fa2, e_fa3, e_tup, e_ktup, e_ktup2, e_lst, e_klst, e_klst2, e_pa0, e_pa1, e_pa2, e_pa3, e_cl, e_kcl, e_kcl2, e_dget, e_d1, e_d2, e_d2i, e_d3, e_d4, e_dput, e_p1, e_p2, e_p3, e_p4, e_p5, e_knil, e_kcons, e_k1, e_k2, e_k3, e_disp, e_k4, e_nop, e_somep, e_ksome, e_sl, e_s1, e_s2, e_s3, e_gnm, e_gtp, e_gnil, e_gcons, e_kg, e_asg, e_as1, e_as2, e_as3, e_par, e_pr, e_pr2, e_it, e_i1, e_i2L, e_i2T, e_r1, e_kr1, e_for, e_kfor, e_l0, e_l1, e_l2, e_l3, e_l3c, e_l3b, e_l3r, e_w1, e_wT, e_wF, e_w2, e_fn, e_kfn, e_kfnN, e_kfn2, e_ent, e_out0, e_outN, e_outT, e_outF, e_kout, e_md0, e_md1, e_md2, e_md3, e_call, e_c1, e_c2, e_c3, e_c4, e_en, e_en0, e_es0, e_es, e_e1, e_e0, e_e2, e_e3, e_kp, e_kpL, e_kpD, e_fsS, e_fsF, e_fsA, e_fsL, e_kfr, e_le0, e_le1, e_le2, e_comp, e_lc, e_lc2, e_m0, e_m1, e_m2, e_m3, e_m3F, e_m4, e_m5, e_yes, e_wi0, e_wi1, e_star, e_star2, e_star3, e_isi, e_is1, e_is2, e_orE, e_orE1, e_orE2, e_app, e_ap1, e_ap2, e_ap3, e_ap4, e_ap5, e_ext, e_ex1, e_ex2, e_ex3, e_ex4, e_ex5, e_ch, e_ch1, e_ch2, e_ch3, e_ch4, e_ch5, List.length_cons, List.length_nil, List.map_cons, List.map_nil, Nat.reduceAdd, Nat.reduceSub, List.replicate_succ, List.replicate_zero, List.cons_append, List.nil_append, List.append_nil, List.getElem?_cons_zero, List.getElem?_cons_succ, List.set_cons_zero, List.set_cons_succ, ags, ite_true, if_true, g_add, g_sub, g_lt, g_le, g_gt, g_ge, g_eqI, g_neI, g_abs, g_gcd, g_is, g_isNot, ok0, ok1, ok2, ok3, ok4, ok5, ok6, ok7, ok8, ok9, ok10, ok11, ok12, ok13, ok14, ok15, h, n1, n2, n3, n4, decide_true, Bool.not_true]
theorem o3 {D E : PyData} (h1 : F2 g_fraction_sum_s A C D) (h2 : F2 g_fraction_sum_s B C E) (h3 : F2 g_compared_2 D E (.int t)) : tstF (opF gNe (callF none g_compared_2 (consF (callF none g_fraction_sum_s (consF (varF 0) (consF (varF 2) (nilF))) (nilF)) (consF (callF none g_fraction_sum_s (consF (varF 1) (consF (varF 2) (nilF))) (nilF)) (nilF))) (nilF)) (varF 3)) [some (.fz A), some (.fz B), some (.fz C), some (.fz (.int t))] = some (false, [some (.fz A), some (.fz B), some (.fz C), some (.fz (.int t))]) := by
  simp only [e_seq, e_kseq, e_kseqR, e_kseqB, e_kseqC, e_skip, e_if, e_ifT, e_ifF, e_ret, e_kret, e_kretL, e_kretD, e_kretA, e_kretA2, e_set, e_kset, e_ksetL, e_ksetD, e_ksetS, e_ksetA, e_ksetA2, e_expr, e_knx, e_cvF, e_cvS, e_cvL, e_cvD, e_cfF, e_cfL, e_cdF, e_cdL, e_ckD, e_clL, e_pkF, e_pkL, e_pkA, e_fzF, e_fzL, e_fzA, e_var, e_c, e_op, e_o1, e_o2, e_o3, e_o4, e_tst, e_kt, e_and, e_andT, e_andF, e_or, e_orT, e_orF, e_not, e_knot, e_andV, e_andVT, e_andVF, e_orV, e_orVT, e_orVF, e_notV, e_knotV, e_ifE, e_ifET, e_ifEF, e_neg, e_kneg, e_nil, e_cons, e_a1F, e_a1S, e_a1L, e_a1A, e_a2, e_fa0, e_fa1, e_fa2, e_fa3, e_tup, e_ktup, e_ktup2, e_lst, e_klst, e_klst2, e_pa0, e_pa1, e_pa2, e_pa3, e_cl, e_kcl, e_kcl2, e_dget, e_d1, e_d2, e_d2i, e_d3, e_d4, e_dput, e_p1, e_p2, e_p3, e_p4, e_p5, e_knil, e_kcons, e_k1, e_k2, e_k3, e_disp, e_k4, e_nop, e_somep, e_ksome, e_sl, e_s1, e_s2, e_s3, e_gnm, e_gtp, e_gnil, e_gcons, e_kg, e_asg, e_as1, e_as2, e_as3, e_par, e_pr, e_pr2, e_it, e_i1, e_i2L, e_i2T, e_r1, e_kr1, e_for, e_kfor, e_l0, e_l1, e_l2, e_l3, e_l3c, e_l3b, e_l3r, e_w1, e_wT, e_wF, e_w2, e_fn, e_kfn, e_kfnN, e_kfn2, e_ent, e_out0, e_outN, e_outT, e_outF, e_kout, e_md0, e_md1, e_md2, e_md3, e_call, e_c1, e_c2, e_c3, e_c4, e_en, e_en0, e_es0, e_es, e_e1, e_e0, e_e2, e_e3, e_kp, e_kpL, e_kpD, e_fsS, e_fsF, e_fsA, e_fsL, e_kfr, e_le0, e_le1, e_le2, e_comp, e_lc, e_lc2, e_m0, e_m1, e_m2, e_m3, e_m3F, e_m4, e_m5, e_yes, e_wi0, e_wi1, e_star, e_star2, e_star3, e_isi, e_is1, e_is2, e_orE, e_orE1, e_orE2, e_app, e_ap1, e_ap2, e_ap3, e_ap4, e_ap5, e_ext, e_ex1, e_ex2, e_ex3, e_ex4, e_ex5, e_ch, e_ch1, e_ch2, e_ch3, e_ch4, e_ch5, List.length_cons, List.length_nil, List.map_cons, List.map_nil, Nat.reduceAdd, Nat.reduceSub, List.replicate_succ, List.replicate_zero, List.cons_append, List.nil_append, List.append_nil, List.getElem?_cons_zero, List.getElem?_cons_succ, List.set_cons_zero, List.set_cons_succ, ags, ite_true, if_true, g_add, g_sub, g_lt, g_le, g_gt, g_ge, g_eqI, g_neI, g_abs, g_gcd, g_is, g_isNot, ok0, ok1, ok2, ok3, ok4, ok5, ok6, ok7, ok8, ok9, ok10, ok11, ok12, ok13, ok14, ok15, h1, h2, h3, decide_true, Bool.not_true]
theorem o4' {D E : PyData} {v : Int} (h1 : F2 g_fraction_product_s A C D) (h2 : F2 g_fraction_product_s B C E) (h3 : F2 g_compared_2 D E (.int (t * v))) (h4 : F2 g_compared_2 C (.tuple [.int 0, .int 1]) (.int v)) (m : gMul (.int t) (.int v) = some (.fz (.int (t * v)))) :
    tstF (opF gNe (callF none g_compared_2 (consF (callF none g_fraction_product_s (consF (varF 0) (consF (varF 2) (nilF))) (nilF)) (consF (callF none g_fraction_product_s (consF (varF 1) (consF (varF 2) (nilF))) (nilF)) (nilF))) (nilF)) (opF gMul (varF 3) (callF none g_compared_2 (consF (varF 2) (consF (tupF (consF (cF (.int 0)) (consF (cF (.int 1)) (nilF)))) (nilF))) (nilF)))) [some (.fz A), some (.fz B), some (.fz C), some (.fz (.int t))] = some (false, [some (.fz A), some (.fz B), some (.fz C), some (.fz (.int t))]) := by
  simp only [e_seq, e_kseq, e_kseqR, e_kseqB, e_kseqC, e_skip, e_if, e_ifT, e_ifF, e_ret, e_kret, e_kretL, e_kretD, e_kretA, e_kretA2, e_set, e_kset, e_ksetL, e_ksetD, e_ksetS, e_ksetA, e_ksetA2, e_expr, e_knx, e_cvF, e_cvS, e_cvL, e_cvD, e_cfF, e_cfL, e_cdF, e_cdL, e_ckD, e_clL, e_pkF, e_pkL, e_pkA, e_fzF, e_fzL, e_fzA, e_var, e_c, e_op, e_o1, e_o2, e_o3, e_o4, e_tst, e_kt, e_and, e_andT, e_andF, e_or, e_orT, e_orF, e_not, e_knot, e_andV, e_andVT, e_andVF, e_orV, e_orVT, e_orVF, e_notV, e_knotV, e_ifE, e_ifET, e_ifEF, e_neg, e_kneg, e_nil, e_cons, e_a1F, e_a1S, e_a1L, e_a1A, e_a2, e_fa0, e_fa1, e_fa2, e_fa3, e_tup, e_ktup, e_ktup2, e_lst, e_klst, e_klst2, e_pa0, e_pa1, e_pa2, e_pa3, e_cl, e_kcl, e_kcl2, e_dget, e_d1, e_d2, e_d2i, e_d3, e_d4, e_dput, e_p1, e_p2, e_p3, e_p4, e_p5, e_knil, e_kcons, e_k1, e_k2, e_k3, e_disp, e_k4, e_nop, e_somep, e_ksome, e_sl, e_s1, e_s2, e_s3, e_gnm, e_gtp, e_gnil, e_gcons, e_kg, e_asg, e_as1, e_as2, e_as3, e_par, e_pr, e_pr2, e_it, e_i1, e_i2L, e_i2T, e_r1, e_kr1, e_for, e_kfor, e_l0, e_l1, e_l2, e_l3, e_l3c, e_l3b, e_l3r, e_w1, e_wT, e_wF, e_w2, e_fn, e_kfn, e_kfnN, e_kfn2, e_ent, e_out0, e_outN, e_outT, e_outF, e_kout, e_md0, e_md1, e_md2, e_md3, e_call, e_c1, e_c2, e_c3, e_c4, e_en, e_en0, e_es0, e_es, e_e1, e_e0, e_e2, e_e3, e_kp, e_kpL, e_kpD, e_fsS, e_fsF, e_fsA, e_fsL, e_kfr, e_le0, e_le1, e_le2, e_comp, e_lc, e_lc2, e_m0, e_m1, e_m2, e_m3, e_m3F, e_m4, e_m5, e_yes, e_wi0, e_wi1, e_star, e_star2, e_star3, e_isi, e_is1, e_is2, e_orE, e_orE1, e_orE2, e_app, e_ap1, e_ap2, e_ap3, e_ap4, e_ap5, e_ext, e_ex1, e_ex2, e_ex3, e_ex4, e_ex5, e_ch, e_ch1, e_ch2, e_ch3, e_ch4, e_ch5, List.length_cons, List.length_nil, List.map_cons, List.map_nil, Nat.reduceAdd, Nat.reduceSub, List.replicate_succ, List.replicate_zero, List.cons_append, List.nil_append, List.append_nil, List.getElem?_cons_zero, List.getElem?_cons_succ, List.set_cons_zero, List.set_cons_succ, ags, ite_true, if_true, g_add, g_sub, g_lt, g_le, g_gt, g_ge, g_eqI, g_neI, g_abs, g_gcd, g_is, g_isNot, ok0, ok1, ok2, ok3, ok4, ok5, ok6, ok7, ok8, ok9, ok10, ok11, ok12, ok13, ok14, ok15, h1, h2, h3, h4, m, decide_true, Bool.not_true]
theorem o5 {v w : Int} (h1 : F2 g_compared_2 B C (.int v)) (h2 : F2 g_compared_2 A C (.int w)) (tr : t < 1 → v < 1 → ¬ 0 < w) : (andF (tstF (opF gLt (varF 3) (cF (.int 1)))) (andF (tstF (opF gLt (callF none g_compared_2 (consF (varF 1) (consF (varF 2) (nilF))) (nilF)) (cF (.int 1)))) (tstF (opF gGt (callF none g_compared_2 (consF (varF 0) (consF (varF 2) (nilF))) (nilF)) (cF (.int 0)))))) [some (.fz A), some (.fz B), some (.fz C), some (.fz (.int t))] = some (false, [some (.fz A), some (.fz B), some (.fz C), some (.fz (.int t))]) := by
  by_cases c1 : t < 1
  · by_cases c2 : v < 1
    · simp only [e_seq, e_kseq, e_kseqR, e_kseqB, e_kseqC, e_skip, e_if, e_ifT, e_ifF, e_ret, e_kret, e_kretL, e_kretD, e_kretA, e_kretA2, e_set, e_kset, e_ksetL, e_ksetD, e_ksetS, e_ksetA, e_ksetA2, e_expr, e_knx, e_cvF, e_cvS, e_cvL, e_cvD, e_cfF, e_cfL, e_cdF, e_cdL, e_ckD, e_clL, e_pkF, e_pkL, e_pkA, e_fzF, e_fzL, e_fzA, e_var, e_c, e_op, e_o1, e_o2, e_o3, e_o4, e_tst, e_kt, e_and, e_andT, e_andF, e_or, e_orT, e_orF, e_not, e_knot, e_andV, e_andVT, e_andVF, e_orV, e_orVT, e_orVF, e_notV, e_knotV, e_ifE, e_ifET, e_ifEF, e_neg, e_kneg, e_nil, e_cons, e_a1F, e_a1S, e_a1L, e_a1A, e_a2, e_fa0, e_fa1, e_fa2, e_fa3, e_tup, e_ktup, e_ktup2, e_lst, e_klst, e_klst2, e_pa0, e_pa1, e_pa2, e_pa3, e_cl, e_kcl, e_kcl2, e_dget, e_d1, e_d2, e_d2i, e_d3, e_d4, e_dput, e_p1, e_p2, e_p3, e_p4, e_p5, e_knil, e_kcons, e_k1, e_k2, e_k3, e_disp, e_k4, e_nop, e_somep, e_ksome, e_sl, e_s1, e_s2, e_s3, e_gnm, e_gtp, e_gnil, e_gcons, e_kg, e_asg, e_as1, e_as2, e_as3, e_par, e_pr, e_pr2, e_it, e_i1, e_i2L, e_i2T, e_r1, e_kr1, e_for, e_kfor, e_l0, e_l1, e_l2, e_l3, e_l3c, e_l3b, e_l3r, e_w1, e_wT, e_wF, e_w2, e_fn, e_kfn, e_kfnN, e_kfn2, e_ent, e_out0, e_outN, e_outT, e_outF, e_kout, e_md0, e_md1, e_md2, e_md3, e_call, e_c1, e_c2, e_c3, e_c4, e_en, e_en0, e_es0, e_es, e_e1, e_e0, e_e2, e_e3, e_kp, e_kpL, e_kpD, e_fsS, e_fsF, e_fsA, e_fsL, e_kfr, e_le0, e_le1, e_le2, e_comp, e_lc, e_lc2, e_m0, e_m1, e_m2, e_m3, e_m3F, e_m4, e_m5, e_yes, e_wi0, e_wi1, e_star, e_star2, e_star3, e_isi, e_is1, e_is2, e_orE, e_orE1, e_orE2, e_app, e_ap1, e_ap2, e_ap3, e_ap4, e_ap5, e_ext, e_ex1, e_ex2, e_ex3, e_ex4, e_ex5, e_ch, e_ch1, e_ch2, e_ch3, e_ch4, e_ch5, List.length_cons, List.length_nil, List.map_cons, List.map_nil, Nat.reduceAdd, Nat.reduceSub, List.replicate_succ, List.replicate_zero, List.cons_append, List.nil_append, List.append_nil, List.getElem?_cons_zero, List.getElem?_cons_succ, List.set_cons_zero, List.set_cons_succ, ags, ite_true, if_true, g_add, g_sub, g_lt, g_le, g_gt, g_ge, g_eqI, g_neI, g_abs, g_gcd, g_is, g_isNot, ok0, ok1, ok2, ok3, ok4, ok5, ok6, ok7, ok8, ok9, ok10, ok11, ok12, ok13, ok14, ok15, h1, h2, decide_eq_true c1, decide_eq_true c2, decide_eq_false (tr c1 c2)]
    · simp only [e_seq, e_kseq, e_kseqR, e_kseqB, e_kseqC, e_skip, e_if, e_ifT, e_ifF, e_ret, e_kret, e_kretL, e_kretD, e_kretA, e_kretA2, e_set, e_kset, e_ksetL, e_ksetD, e_ksetS, e_ksetA, e_ksetA2, e_expr, e_knx, e_cvF, e_cvS, e_cvL, e_cvD, e_cfF, e_cfL, e_cdF, e_cdL, e_ckD, e_clL, e_pkF, e_pkL, e_pkA, e_fzF, e_fzL, e_fzA, e_var, e_c, e_op, e_o1, e_o2, e_o3, e_o4, e_tst, e_kt, e_and, e_andT, e_andF, e_or, e_orT, e_orF, e_not, e_knot, e_andV, e_andVT, e_andVF, e_orV, e_orVT, e_orVF, e_notV, e_knotV, e_ifE, e_ifET, e_ifEF, e_neg, e_kneg, e_nil, e_cons, e_a1F, e_a1S, e_a1L, e_a1A, e_a2, e_fa0, e_fa1, e_fa2, e_fa3, e_tup, e_ktup, e_ktup2, e_lst, e_klst, e_klst2, e_pa0, e_pa1, e_pa2, e_pa3, e_cl, e_kcl, e_kcl2, e_dget, e_d1, e_d2, e_d2i, e_d3, e_d4, e_dput, e_p1, e_p2, e_p3, e_p4, e_p5, e_knil, e_kcons, e_k1, e_k2, e_k3, e_disp, e_k4, e_nop, e_somep, e_ksome, e_sl, e_s1, e_s2, e_s3, e_gnm, e_gtp, e_gnil, e_gcons, e_kg, e_asg, e_as1, e_as2, e_as3, e_par, e_pr, e_pr2, e_it, e_i1, e_i2L, e_i2T, e_r1, e_kr1, e_for, e_kfor, e_l0, e_l1, e_l2, e_l3, e_l3c, e_l3b, e_l3r, e_w1, e_wT, e_wF, e_w2, e_fn, e_kfn, e_kfnN, e_kfn2, e_ent, e_out0, e_outN, e_outT, e_outF, e_kout, e_md0, e_md1, e_md2, e_md3, e_call, e_c1, e_c2, e_c3, e_c4, e_en, e_en0, e_es0, e_es, e_e1, e_e0, e_e2, e_e3, e_kp, e_kpL, e_kpD, e_fsS, e_fsF, e_fsA, e_fsL, e_kfr, e_le0, e_le1, e_le2, e_comp, e_lc, e_lc2, e_m0, e_m1, e_m2, e_m3, e_m3F, e_m4, e_m5, e_yes, e_wi0, e_wi1, e_star, e_star2, e_star3, e_isi, e_is1, e_is2, e_orE, e_orE1, e_orE2, e_app, e_ap1, e_ap2, e_ap3, e_ap4, e_ap5, e_ext, e_ex1, e_ex2, e_ex3, e_ex4, e_ex5, e_ch, e_ch1, e_ch2, e_ch3, e_ch4, e_ch5, List.length_cons, List.length_nil, List.map_cons, List.map_nil, Nat.reduceAdd, Nat.reduceSub, List.replicate_succ, List.replicate_zero, List.cons_append, List.nil_append, List.append_nil, List.getElem?_cons_zero, List.getElem?_cons_succ, List.set_cons_zero, List.set_cons_succ, ags, ite_true, if_true, g_add, g_sub, g_lt, g_le, g_gt, g_ge, g_eqI, g_neI, g_abs, g_gcd, g_is, g_isNot, ok0, ok1, ok2, ok3, ok4, ok5, ok6, ok7, ok8, ok9, ok10, ok11, ok12, ok13, ok14, ok15, h1, decide_eq_true c1, decide_eq_false c2]
  · simp only [e_seq, e_kseq, e_kseqR, e_kseqB, e_kseqC, e_skip, e_if, e_ifT, e_ifF, e_ret, e_kret, e_kretL, e_kretD, e_kretA, e_kretA2, e_set, e_kset, e_ksetL, e_ksetD, e_ksetS, e_ksetA, e_ksetA2, e_expr, e_knx, e_cvF, e_cvS, e_cvL, e_cvD, e_cfF, e_cfL, e_cdF, e_cdL, e_ckD, e_clL, e_pkF, e_pkL, e_pkA, e_fzF, e_fzL, e_fzA, e_var, e_c, e_op, e_o1, e_o2, e_o3, e_o4, e_tst, e_kt, e_and, e_andT, e_andF, e_or, e_orT, e_orF, e_not, e_knot, e_andV, e_andVT, e_andVF, e_orV, e_orVT, e_orVF, e_notV, e_knotV, e_ifE, e_ifET, e_ifEF, e_neg, e_kneg, e_nil, e_cons, e_a1F, e_a1S, e_a1L, e_a1A, e_a2, e_fa0, e_fa1, e_fa2, e_fa3, e_tup, e_ktup, e_ktup2, e_lst, e_klst, e_klst2, e_pa0, e_pa1, e_pa2, e_pa3, e_cl, e_kcl, e_kcl2, e_dget, e_d1, e_d2, e_d2i, e_d3, e_d4, e_dput, e_p1, e_p2, e_p3, e_p4, e_p5, e_knil, e_kcons, e_k1, e_k2, e_k3, e_disp, e_k4, e_nop, e_somep, e_ksome, e_sl, e_s1, e_s2, e_s3, e_gnm, e_gtp, e_gnil, e_gcons, e_kg, e_asg, e_as1, e_as2, e_as3, e_par, e_pr, e_pr2, e_it, e_i1, e_i2L, e_i2T, e_r1, e_kr1, e_for, e_kfor, e_l0, e_l1, e_l2, e_l3, e_l3c, e_l3b, e_l3r, e_w1, e_wT, e_wF, e_w2, e_fn, e_kfn, e_kfnN, e_kfn2, e_ent, e_out0, e_outN, e_outT, e_outF, e_kout, e_md0, e_md1, e_md2, e_md3, e_call, e_c1, e_c2, e_c3, e_c4, e_en, e_en0, e_es0, e_es, e_e1, e_e0, e_e2, e_e3, e_kp, e_kpL, e_kpD, e_fsS, e_fsF, e_fsA, e_fsL, e_kfr, e_le0, e_le1, e_le2, e_comp, e_lc, e_lc2, e_m0, e_m1, e_m2, e_m3, e_m3F, e_m4, e_m5, e_yes, e_wi0, e_wi1, e_star, e_star2, e_star3, e_isi, e_is1, e_is2, e_orE, e_orE1, e_orE2, e_app, e_ap1, e_ap2, e_ap3, e_ap4, e_ap5, e_ext, e_ex1, e_ex2, e_ex3, e_ex4, e_ex5, e_ch, e_ch1, e_ch2, e_ch3, e_ch4, e_ch5, List.length_cons, List.length_nil, List.map_cons, List.map_nil, Nat.reduceAdd, Nat.reduceSub, List.replicate_succ, List.replicate_zero, List.cons_append, List.nil_append, List.append_nil, List.getElem?_cons_zero, List.getElem?_cons_succ, List.set_cons_zero, List.set_cons_succ, ags, ite_true, if_true, g_add, g_sub, g_lt, g_le, g_gt, g_ge, g_eqI, g_neI, g_abs, g_gcd, g_is, g_isNot, ok0, ok1, ok2, ok3, ok4, ok5, ok6, ok7, ok8, ok9, ok10, ok11, ok12, ok13, ok14, ok15, decide_eq_false c1]
theorem o6 {N D z : PyData} (h1 : F2 g_fraction_product_s (.tuple [.int (-1), .int 1]) B N) (h2 : F2 g_fraction_sum_s A N D) (h3 : F0 g_fraction_sum_s z) (h4 : F2 g_compared_2 D z (.int t)) : opF gEq (callF none g_compared_2 (consF (callF none g_fraction_sum_s (consF (varF 0) (consF (callF none g_fraction_product_s (consF (tupF (consF (negF (cF (.int 1))) (consF (cF (.int 1)) (nilF)))) (consF (varF 1) (nilF))) (nilF)) (nilF))) (nilF)) (consF (callF none g_fraction_sum_s (nilF) (nilF)) (nilF))) (nilF)) (varF 3) [some (.fz A), some (.fz B), some (.fz C), some (.fz (.int t))] = some (.fz (.bool true), [some (.fz A), some (.fz B), some (.fz C), some (.fz (.int t))]) := by
  simp only [e_seq, e_kseq, e_kseqR, e_kseqB, e_kseqC, e_skip, e_if, e_ifT, e_ifF, e_ret, e_kret, e_kretL, e_kretD, e_kretA, e_kretA2, e_set, e_kset, e_ksetL, e_ksetD, e_ksetS, e_ksetA, e_ksetA2, e_expr, e_knx, e_cvF, e_cvS, e_cvL, e_cvD, e_cfF, e_cfL, e_cdF, e_cdL, e_ckD, e_clL, e_pkF, e_pkL, e_pkA, e_fzF, e_fzL, e_fzA, e_var, e_c, e_op, e_o1, e_o2, e_o3, e_o4, e_tst, e_kt, e_and, e_andT, e_andF, e_or, e_orT, e_orF, e_not, e_knot, e_andV, e_andVT, e_andVF, e_orV, e_orVT, e_orVF, e_notV, e_knotV, e_ifE, e_ifET, e_ifEF, e_neg, e_kneg, e_nil, e_cons, e_a1F, e_a1S, e_a1L, e_a1A, e_a2, e_fa0, e_fa1, e_fa2, e_fa3, e_tup, e_ktup, e_ktup2, e_lst, e_klst, e_klst2, e_pa0, e_pa1, e_pa2, e_pa3, e_cl, e_kcl, e_kcl2, e_dget, e_d1, e_d2, e_d2i, e_d3, e_d4, e_dput, e_p1, e_p2, e_p3, e_p4, e_p5, e_knil, e_kcons, e_k1, e_k2, e_k3, e_disp, e_k4, e_nop, e_somep, e_ksome, e_sl, e_s1, e_s2, e_s3, e_gnm, e_gtp, e_gnil, e_gcons, e_kg, e_asg, e_as1, e_as2, e_as3, e_par, e_pr, e_pr2, e_it, e_i1, e_i2L, e_i2T, e_r1, e_kr1, e_for, e_kfor, e_l0, e_l1, e_l2, e_l3, e_l3c, e_l3b, e_l3r, e_w1, e_wT, e_wF, e_w2, e_fn, e_kfn, e_kfnN, e_kfn2, e_ent, e_out0, e_outN, e_outT, e_outF, e_kout, e_md0, e_md1, e_md2, e_md3, e_call, e_c1, e_c2, e_c3, e_c4, e_en, e_en0, e_es0, e_es, e_e1, e_e0, e_e2, e_e3, e_kp, e_kpL, e_kpD, e_fsS, e_fsF, e_fsA, e_fsL, e_kfr, e_le0, e_le1, e_le2, e_comp, e_lc, e_lc2, e_m0, e_m1, e_m2, e_m3, e_m3F, e_m4, e_m5, e_yes, e_wi0, e_wi1, e_star, e_star2, e_star3, e_isi, e_is1, e_is2, e_orE, e_orE1, e_orE2, e_app, e_ap1, e_ap2, e_ap3, e_ap4, e_ap5, e_ext, e_ex1, e_ex2, e_ex3, e_ex4, e_ex5, e_ch, e_ch1, e_ch2, e_ch3, e_ch4, e_ch5, List.length_cons, List.length_nil, List.map_cons, List.map_nil, Nat.reduceAdd, Nat.reduceSub, List.replicate_succ, List.replicate_zero, List.cons_append, List.nil_append, List.append_nil, List.getElem?_cons_zero, List.getElem?_cons_succ, List.set_cons_zero, List.set_cons_succ, ags, ite_true, if_true, g_add, g_sub, g_lt, g_le, g_gt, g_ge, g_eqI, g_neI, g_abs, g_gcd, g_is, g_isNot, ok0, ok1, ok2, ok3, ok4, ok5, ok6, ok7, ok8, ok9, ok10, ok11, ok12, ok13, ok14, ok15, h1, h2, h3, h4, decide_true]
end
theorem co {p q : Rat} {t : Int} (h : Sz 4000 p) (h2 : Sz 4000 q) (e : cmpR p q = t) : F2 g_compared_2 (fD p) (fD q) (.int t) := by subst e; exact compared_ok h h2
theorem order_ok {a b c : Rat} (h : Sz 30 a) (h2 : Sz 30 b) (h3 : Sz 30 c) : g__law_order_right_3 [.fz (fD a), .fz (fD b), .fz (fD c)] = some (.fz (.bool true), [.fz (fD a), .fz (fD b), .fz (fD c)]) := by
  have k : ∀ {x : Rat}, Sz 30 x → Sz M9 x := fun h => h.up (by decide)
  have k4 : ∀ {x : Rat}, Sz 30 x → Sz 4000 x := fun h => h.up (by decide)
  have m1 : Sz 1 (-1) := ⟨by decide, by decide⟩
  have z0 : Sz 30 (0 : Rat) := sz01 (by decide)
  have pm : Sz M9 (-1 * b) := (m1.mul h2).up (by decide)
  unfold g__law_order_right_3 g__law_order_right m__law_order_right
  refine fnE (ρ := [some (.fz (fD a)), some (.fz (fD b)), some (.fz (fD c)), some (.fz (.int (cmpR a b)))]) rfl ?_ rfl
  refine seq_ok (o1 (compared_ok (k4 h) (k4 h2))) ?_
  refine seq_ok (if_no (o2 (u := decide (a = b)) (co (k4 h2) (k4 h) (cmp_swap a b)) (in3 a b) g_eqf ?_ (ne_bb _))) ?_
  · refine decide_eq_decide.mpr ⟨fun e => ?_, cmp_eq0⟩
    rcases cmp_cases a b with ⟨_, e2⟩ | ⟨e2, _⟩ | ⟨_, e2⟩
    · omega
    · exact e2
    · omega
  refine seq_ok (if_no (o3 (sum2 (k h) (k h3)) (sum2 (k h2) (k h3)) (co ((h.add h3).up (by decide)) ((h2.add h3).up (by decide)) (cmp_add a b c)))) ?_
  refine seq_ok (if_no (o4' (v := cmpR c 0) (prod2 (k h) (k h3)) (prod2 (k h2) (k h3)) (co ((h.mul h3).up (by decide)) ((h2.mul h3).up (by decide)) (cmp_mul a b c)) (compared_ok (k4 h3) (k4 z0)) (gm (small3 a b) (small3 c 0)))) ?_
  refine seq_ok (if_no (o5 (compared_ok (k4 h2) (k4 h3)) (compared_ok (k4 h) (k4 h3)) ?_)) ?_
  · intro c1 c2 c3
    rcases cmp_cases a b with ⟨p1, e1⟩ | ⟨p1, e1⟩ | ⟨p1, e1⟩ <;> rcases cmp_cases b c with ⟨p2, e2⟩ | ⟨p2, e2⟩ | ⟨p2, e2⟩ <;> rcases cmp_cases a c with ⟨p3, e3⟩ | ⟨p3, e3⟩ | ⟨p3, e3⟩ <;> first | omega | grind
  exact ret_ok (o6 (N := fD (-1 * b)) (prod2 (p := -1) (m1.up (by decide)) (k h2)) (sum2 (k h) pm) sum0 (co (((h.add (m1.mul h2))).up (by decide)) (k4 z0) (cmp_sub a b)))
end LW

namespace LW
open L2 PySem PySem.Spec PyProof.Rows DL RT
set_option maxHeartbeats 0
section
variable {A B P Q : PyData} {a b p q : Str} {x : Option S}
theorem w1 (h1 : F2 g_fraction_sum_s A B P) (h2 : F2 g_fraction_product_s A B Q) (k1 : F1 g_fraction_text_1 A (.str a)) (k2 : F1 g_fraction_text_1 B (.str b)) (k3 : F1 g_fraction_text_1 P (.str p)) (k4 : F1 g_fraction_text_1 Q (.str q)) :
    setF 2 (compF (itI (tupF (consF (varF 0) (consF (varF 1) (consF (callF none g_fraction_sum_s (consF (varF 0) (consF (varF 1) (nilF))) (nilF)) (consF (callF none g_fraction_product_s (consF (varF 0) (consF (varF 1) (nilF))) (nilF)) (nilF))))))) (gNm 3) (yesF) (callF none g_fraction_text_1 (consF (varF 3) (nilF)) (nilF)) [3]) [some (.fz A), some (.fz B), none, none, none] = some (.nx [some (.fz A), some (.fz B), some (.ol [.str a, .str b, .str p, .str q]), none, none]) := by
  simp only [e_seq, e_kseq, e_kseqR, e_kseqB, e_kseqC, e_skip, e_if, e_ifT, e_ifF, e_ret, e_kret, e_kretL, e_kretD, e_kretA, e_kretA2, e_set, e_kset, e_ksetL, e_ksetD, e_ksetS, e_ksetA, e_ksetA2, e_expr, e_knx, e_cvF, e_cvS, e_cvL, e_cvD, e_cfF, e_cfL, e_cdF, e_cdL, e_ckD, e_clL, e_pkF, e_pkL, e_pkA, e_fzF, e_fzL, e_fzA, e_var, e_c, e_op, e_o1, e_o2, e_o3, e_o4, e_tst, e_kt, e_and, e_andT, e_andF, e_or, e_orT, e_orF, e_not, e_knot, e_andV, e_andVT, e_andVF, e_orV, e_orVT, e_orVF, e_notV, e_knotV, e_ifE, e_ifET, e_ifEF, e_neg, e_kneg, e_nil, e_cons, e_a1F, e_a1S, e_a1L, e_a1A, e_a2, e_fa0, e_fa1, e_fa2, e_fa3, e_tup, e_ktup, e_ktup2, e_lst, e_klst, e_klst2, e_pa0, e_pa1, e_pa2, e_pa3, e_cl, e_kcl, e_kcl2, e_dget, e_d1, e_d2, e_d2i, e_d3, e_d4, e_dput, e_p1, e_p2, e_p3, e_p4, e_p5, e_knil, e_kcons, e_k1, e_k2, e_k3, e_disp, e_k4, e_nop, e_somep, e_ksome, e_sl, e_s1, e_s2, e_s3, e_gnm, e_gtp, e_gnil, e_gcons, e_kg, e_asg, e_as1, e_as2, e_as3, e_par, e_pr, e_pr2, e_it, e_i1, e_i2L, e_i2T, e_r1, e_kr1, e_for, e_kfor, e_l0, e_l1, e_l2, e_l3, e_l3c, e_l3b, e_l3r, e_w1, e_wT, e_wF, e_w2, e_fn, e_kfn, e_kfnN, e_kfn2, e_ent, e_out0, e_outN, e_outT, e_outF, e_kout, e_md0, e_md1, e_md2, e_md3, e_call, e_c1, e_c2, e_c3, e_c4, e_en, e_en0, e_es0, e_es, e_e1, e_e0, e_e2, e_e3, e_kp, e_kpL, e_kpD, e_fsS, e_fsF, e_fsA, e_fsL, e_kfr, e_le0, e_le1, e_le2, e_comp, e_lc, e_lc2, e_m0, e_m1, e_m2, e_m3, e_m3F, e_m4, e_m5, e_yes, e_wi0, e_wi1, e_star, e_star2, e_star3, e_isi, e_is1, e_is2, e_orE, e_orE1, e_orE2, e_app, e_ap1, e_ap2, e_ap3, e_ap4, e_ap5, e_ext, e_ex1, e_ex2, e_ex3, e_ex4, e_ex5, e_ch, e_ch1, e_ch2, e_ch3, e_ch4, e_ch5, List.length_cons, List.length_nil, List.map_cons, List.map_nil, Nat.reduceAdd, Nat.reduceSub, List.replicate_succ, List.replicate_zero, List.cons_append, List.nil_append, List.append_nil, List.getElem?_cons_zero, List.getElem?_cons_succ, List.set_cons_zero, List.set_cons_succ, ags, ite_true, if_true, g_add, g_sub, g_lt, g_le, g_gt, g_ge, g_eqI, g_neI, g_abs, g_gcd, g_is, g_isNot, ok0, ok1, ok2, ok3, ok4, ok5, ok6, ok7, ok8, ok9, ok10, ok11, ok12, ok13, ok14, ok15, h1, h2, k1, k2, k3, k4]
theorem w2 (h1 : F2 g_fraction_sum_s A B P) (h2 : F2 g_fraction_product_s A B Q) (k1 : F1 g_fraction_read_1 (.str a) A) (k2 : F1 g_fraction_read_1 (.str b) B) (k3 : F1 g_fraction_read_1 (.str p) P) (k4 : F1 g_fraction_read_1 (.str q) Q) (n : gNe (.list [A, B, P, Q]) (.list [A, B, P, Q]) = some (.fz (.bool false))) :
    tstF (opF gNe (compF (itI (varF 2)) (gNm 4) (yesF) (callF none g_fraction_read_1 (consF (varF 4) (nilF)) (nilF)) [4]) (lstF (consF (varF 0) (consF (varF 1) (consF (callF none g_fraction_sum_s (consF (varF 0) (consF (varF 1) (nilF))) (nilF)) (consF (callF none g_fraction_product_s (consF (varF 0) (consF (varF 1) (nilF))) (nilF)) (nilF))))))) [some (.fz A), some (.fz B), some (.ol [.str a, .str b, .str p, .str q]), none, none] = some (false, [some (.fz A), some (.fz B), some (.fz (.list [.str a, .str b, .str p, .str q])), none, none]) := by
  simp only [e_seq, e_kseq, e_kseqR, e_kseqB, e_kseqC, e_skip, e_if, e_ifT, e_ifF, e_ret, e_kret, e_kretL, e_kretD, e_kretA, e_kretA2, e_set, e_kset, e_ksetL, e_ksetD, e_ksetS, e_ksetA, e_ksetA2, e_expr, e_knx, e_cvF, e_cvS, e_cvL, e_cvD, e_cfF, e_cfL, e_cdF, e_cdL, e_ckD, e_clL, e_pkF, e_pkL, e_pkA, e_fzF, e_fzL, e_fzA, e_var, e_c, e_op, e_o1, e_o2, e_o3, e_o4, e_tst, e_kt, e_and, e_andT, e_andF, e_or, e_orT, e_orF, e_not, e_knot, e_andV, e_andVT, e_andVF, e_orV, e_orVT, e_orVF, e_notV, e_knotV, e_ifE, e_ifET, e_ifEF, e_neg, e_kneg, e_nil, e_cons, e_a1F, e_a1S, e_a1L, e_a1A, e_a2, e_fa0, e_fa1, e_fa2, e_fa3, e_tup, e_ktup, e_ktup2, e_lst, e_klst, e_klst2, e_pa0, e_pa1, e_pa2, e_pa3, e_cl, e_kcl, e_kcl2, e_dget, e_d1, e_d2, e_d2i, e_d3, e_d4, e_dput, e_p1, e_p2, e_p3, e_p4, e_p5, e_knil, e_kcons, e_k1, e_k2, e_k3, e_disp, e_k4, e_nop, e_somep, e_ksome, e_sl, e_s1, e_s2, e_s3, e_gnm, e_gtp, e_gnil, e_gcons, e_kg, e_asg, e_as1, e_as2, e_as3, e_par, e_pr, e_pr2, e_it, e_i1, e_i2L, e_i2T, e_r1, e_kr1, e_for, e_kfor, e_l0, e_l1, e_l2, e_l3, e_l3c, e_l3b, e_l3r, e_w1, e_wT, e_wF, e_w2, e_fn, e_kfn, e_kfnN, e_kfn2, e_ent, e_out0, e_outN, e_outT, e_outF, e_kout, e_md0, e_md1, e_md2, e_md3, e_call, e_c1, e_c2, e_c3, e_c4, e_en, e_en0, e_es0, e_es, e_e1, e_e0, e_e2, e_e3, e_kp, e_kpL, e_kpD, e_fsS, e_fsF, e_fsA, e_fsL, e_kfr, e_le0, e_le1, e_le2, e_comp, e_lc, e_lc2, e_m0, e_m1, e_m2, e_m3, e_m3F, e_m4, e_m5, e_yes, e_wi0, e_wi1, e_star, e_star2, e_star3, e_isi, e_is1, e_is2, e_orE, e_orE1, e_orE2, e_app, e_ap1, e_ap2, e_ap3, e_ap4, e_ap5, e_ext, e_ex1, e_ex2, e_ex3, e_ex4, e_ex5, e_ch, e_ch1, e_ch2, e_ch3, e_ch4, e_ch5, List.length_cons, List.length_nil, List.map_cons, List.map_nil, Nat.reduceAdd, Nat.reduceSub, List.replicate_succ, List.replicate_zero, List.cons_append, List.nil_append, List.append_nil, List.getElem?_cons_zero, List.getElem?_cons_succ, List.set_cons_zero, List.set_cons_succ, ags, ite_true, if_true, g_add, g_sub, g_lt, g_le, g_gt, g_ge, g_eqI, g_neI, g_abs, g_gcd, g_is, g_isNot, ok0, ok1, ok2, ok3, ok4, ok5, ok6, ok7, ok8, ok9, ok10, ok11, ok12, ok13, ok14, ok15, h1, h2, k1, k2, k3, k4, n]
theorem w3 {u : Bool} (n1 : decide (a = b) = u) (n2 : gEq A B = some (.fz (.bool u))) (n3 : gEq (.bool u) (.bool u) = some (.fz (.bool true))) (l0 : gIx (.list [.str a, .str b, .str p, .str q]) (.int 0) = some (.fz (.str a))) (l1 : gIx (.list [.str a, .str b, .str p, .str q]) (.int 1) = some (.fz (.str b))) :
    opF gEq (opF gEq (opF gIx (varF 2) (cF (.int 0))) (opF gIx (varF 2) (cF (.int 1)))) (opF gEq (varF 0) (varF 1)) [some (.fz A), some (.fz B), some (.fz (.list [.str a, .str b, .str p, .str q])), none, none] = some (.fz (.bool true), [some (.fz A), some (.fz B), some (.fz (.list [.str a, .str b, .str p, .str q])), none, none]) := by
  simp only [e_seq, e_kseq, e_kseqR, e_kseqB, e_kseqC, e_skip, e_if, e_ifT, e_ifF, e_ret, e_kret, e_kretL, e_kretD, e_kretA, e_kretA2, e_set, e_kset, e_ksetL, e_ksetD, e_ksetS, e_ksetA, e_ksetA2, e_expr, e_knx, e_cvF, e_cvS, e_cvL, e_cvD, e_cfF, e_cfL, e_cdF, e_cdL, e_ckD, e_clL, e_pkF, e_pkL, e_pkA, e_fzF, e_fzL, e_fzA, e_var, e_c, e_op, e_o1, e_o2, e_o3, e_o4, e_tst, e_kt, e_and, e_andT, e_andF, e_or, e_orT, e_orF, e_not, e_knot, e_andV, e_andVT, e_andVF, e_orV, e_orVT, e_orVF, e_notV, e_knotV, e_ifE, e_ifET, e_ifEF, e_neg, e_kneg, e_nil, e_cons, e_a1F, e_a1S, e_a1L, e_a1A, e_a2, e_fa0, e_fa1, e_fa2, e_fa3, e_tup, e_ktup, e_ktup2, e_lst, e_klst, e_klst2, e_pa0, e_pa1, e_pa2, e_pa3, e_cl, e_kcl, e_kcl2, e_dget, e_d1, e_d2, e_d2i, e_d3, e_d4, e_dput, e_p1, e_p2, e_p3, e_p4, e_p5, e_knil, e_kcons, e_k1, e_k2, e_k3, e_disp, e_k4, e_nop, e_somep, e_ksome, e_sl, e_s1, e_s2, e_s3, e_gnm, e_gtp, e_gnil, e_gcons, e_kg, e_asg, e_as1, e_as2, e_as3, e_par, e_pr, e_pr2, e_it, e_i1, e_i2L, e_i2T, e_r1, e_kr1, e_for, e_kfor, e_l0, e_l1, e_l2, e_l3, e_l3c, e_l3b, e_l3r, e_w1, e_wT, e_wF, e_w2, e_fn, e_kfn, e_kfnN, e_kfn2, e_ent, e_out0, e_outN, e_outT, e_outF, e_kout, e_md0, e_md1, e_md2, e_md3, e_call, e_c1, e_c2, e_c3, e_c4, e_en, e_en0, e_es0, e_es, e_e1, e_e0, e_e2, e_e3, e_kp, e_kpL, e_kpD, e_fsS, e_fsF, e_fsA, e_fsL, e_kfr, e_le0, e_le1, e_le2, e_comp, e_lc, e_lc2, e_m0, e_m1, e_m2, e_m3, e_m3F, e_m4, e_m5, e_yes, e_wi0, e_wi1, e_star, e_star2, e_star3, e_isi, e_is1, e_is2, e_orE, e_orE1, e_orE2, e_app, e_ap1, e_ap2, e_ap3, e_ap4, e_ap5, e_ext, e_ex1, e_ex2, e_ex3, e_ex4, e_ex5, e_ch, e_ch1, e_ch2, e_ch3, e_ch4, e_ch5, List.length_cons, List.length_nil, List.map_cons, List.map_nil, Nat.reduceAdd, Nat.reduceSub, List.replicate_succ, List.replicate_zero, List.cons_append, List.nil_append, List.append_nil, List.getElem?_cons_zero, List.getElem?_cons_succ, List.set_cons_zero, List.set_cons_succ, ags, ite_true, if_true, g_add, g_sub, g_lt, g_le, g_gt, g_ge, g_eqI, g_neI, g_abs, g_gcd, g_is, g_isNot, ok0, ok1, ok2, ok3, ok4, ok5, ok6, ok7, ok8, ok9, ok10, ok11, ok12, ok13, ok14, ok15, l0, l1, g_eqS, n1, n2, n3]
end
theorem i_0 {a : PyData} {r : List PyData} : gIx (.list (a :: r)) (.int 0) = some (.fz a) := ix_list (by decide) rfl
theorem i_1 {a b : PyData} {r : List PyData} : gIx (.list (a :: b :: r)) (.int 1) = some (.fz b) := ix_list (by decide) rfl
theorem ne4 (a b c d : Rat) : gNe (.list [fD a, fD b, fD c, fD d]) (.list [fD a, fD b, fD c, fD d]) = some (.fz (.bool false)) := by
  have sh : SeqAt.shaped (.list [fD a, fD b, fD c, fD d]) = true := rfl
  have e : gNe (.list [fD a, fD b, fD c, fD d]) (.list [fD a, fD b, fD c, fD d]) = gNe0 (.list [fD a, fD b, fD c, fD d]) (.list [fD a, fD b, fD c, fD d]) := rfl
  rw [e, gNe0, sh]
  simp only [PyData.eqv, PyData.eqvAll, eqv_f, decide_true, Bool.and_self, if_true, Bool.not_true]
theorem text_ok {a b : Rat} (h : Sz 30 a) (h2 : Sz 30 b) : g__law_text_right_2 [.fz (fD a), .fz (fD b)] = some (.fz (.bool true), [.fz (fD a), .fz (fD b)]) := by
  have k : ∀ {x : Rat}, Sz 30 x → Sz M9 x := fun h => h.up (by decide)
  have a6 : S60 a := S60.of h (by decide)
  have b6 : S60 b := S60.of h2 (by decide)
  have s6 : S60 (a + b) := S60.of (h.add h2) (by decide)
  have p6 : S60 (a * b) := S60.of (h.mul h2) (by decide)
  unfold g__law_text_right_2 g__law_text_right m__law_text_right
  refine fnE (ρ := [some (.fz (fD a)), some (.fz (fD b)), some (.fz (.list [.str (ftx a), .str (ftx b), .str (ftx (a + b)), .str (ftx (a * b))])), none, none]) rfl ?_ rfl
  refine seq_ok (w1 (sum2 (k h) (k h2)) (prod2 (k h) (k h2)) (ftext_ok a6) (ftext_ok b6) (ftext_ok s6) (ftext_ok p6)) ?_
  have q := w2 (sum2 (k h) (k h2)) (prod2 (k h) (k h2)) (read_ok a6) (read_ok b6) (read_ok s6) (read_ok p6) (ne4 _ _ _ _)
  refine seq_ok (ρ1 := [some (.fz (fD a)), some (.fz (fD b)), some (.fz (.list [.str (ftx a), .str (ftx b), .str (ftx (a + b)), .str (ftx (a * b))])), none, none]) (by rw [e_if, q, e_ifF, e_skip]) ?_
  exact ret_ok (w3 (u := decide (a = b)) (decide_eq_decide.mpr (ftx_inj a6 b6)) g_eqf (eq_bb _) i_0 i_1)
/-! ### the law -/
def tab : List Rat := [0, 1, -1, 2, -2, 5, -5, 10, -10, 20, 50, 100, -100, mkRat 1 2, mkRat (-1) 2, mkRat 3 2, mkRat (-7) 2, mkRat 2 3, mkRat 11 10, mkRat 9 10, 9999, -9999]
theorem sizes_ok : g__law_sizes_0 [] = some (.ol (tab.map fD), []) := by kernel_rfl
theorem tab_sz : ∀ x ∈ tab, Sz 14 x := by
  unfold Sz
  decide +kernel
theorem size_ok (c : List Int) (a l n : Int) (ha : 0 ≤ a) (hn : 0 ≤ n) (hn2 : n < 1000000000) : ∃ x a' l', 0 ≤ a' ∧ Sz 14 x ∧ g__law_size_1 [.od (fdL c a l n)] = some (.fz (fD x), [.od (fdL c a' l' (n + 1))]) := by
  obtain ⟨d, a', l', h1, h2, h3, h4⟩ := draw_ok c a l n 22 (by decide) (by decide) ha hn hn2
  have hd : d.toNat < tab.length := by
    show d.toNat < 22
    omega
  have hx : (tab.map fD)[d.toNat]? = some (fD tab[d.toNat]) := by
    rw [List.getElem?_map, List.getElem?_eq_getElem hd]
    rfl
  refine ⟨tab[d.toNat], a', l', h1, tab_sz _ (List.getElem_mem hd), ?_⟩
  simp only [g__law_size_1, g__law_size, m__law_size, g__law_draw_2, e_seq, e_kseq, e_kseqR, e_kseqB, e_kseqC, e_skip, e_if, e_ifT, e_ifF, e_ret, e_kret, e_kretL, e_kretD, e_kretA, e_kretA2, e_set, e_kset, e_ksetL, e_ksetD, e_ksetS, e_ksetA, e_ksetA2, e_expr, e_knx, e_cvF, e_cvS, e_cvL, e_cvD, e_cfF, e_cfL, e_cdF, e_cdL, e_ckD, e_clL, e_pkF, e_pkL, e_pkA, e_fzF, e_fzL, e_fzA, e_var, e_c, e_op, e_o1, e_o2, e_o3, e_o4, e_tst, e_kt, e_and, e_andT, e_andF, e_or, e_orT, e_orF, e_not, e_knot, e_andV, e_andVT, e_andVF, e_orV, e_orVT, e_orVF, e_notV, e_knotV, e_ifE, e_ifET, e_ifEF, e_neg, e_kneg, e_nil, e_cons, e_a1F, e_a1S, e_a1L, e_a1A, e_a2, e_fa0, e_fa1, e_fa2, e_fa3, e_tup, e_ktup, e_ktup2, e_lst, e_klst, e_klst2, e_pa0, e_pa1, e_pa2, e_pa3, e_cl, e_kcl, e_kcl2, e_dget, e_d1, e_d2, e_d2i, e_d3, e_d4, e_dput, e_p1, e_p2, e_p3, e_p4, e_p5, e_knil, e_kcons, e_k1, e_k2, e_k3, e_disp, e_k4, e_nop, e_somep, e_ksome, e_sl, e_s1, e_s2, e_s3, e_gnm, e_gtp, e_gnil, e_gcons, e_kg, e_asg, e_as1, e_as2, e_as3, e_par, e_pr, e_pr2, e_it, e_i1, e_i2L, e_i2T, e_r1, e_kr1, e_for, e_kfor, e_l0, e_l1, e_l2, e_l3, e_l3c, e_l3b, e_l3r, e_w1, e_wT, e_wF, e_w2, e_fn, e_kfn, e_kfnN, e_kfn2, e_ent, e_out0, e_outN, e_outT, e_outF, e_kout, e_md0, e_md1, e_md2, e_md3, e_call, e_c1, e_c2, e_c3, e_c4, e_en, e_en0, e_es0, e_es, e_e1, e_e0, e_e2, e_e3, e_kp, e_kpL, e_kpD, e_fsS, e_fsF, e_fsA, e_fsL, e_kfr, e_le0, e_le1, e_le2, e_comp, e_lc, e_lc2, e_m0, e_m1, e_m2, e_m3, e_m3F, e_m4, e_m5, e_yes, e_wi0, e_wi1, e_star, e_star2, e_star3, e_isi, e_is1, e_is2, e_orE, e_orE1, e_orE2, e_app, e_ap1, e_ap2, e_ap3, e_ap4, e_ap5, e_ext, e_ex1, e_ex2, e_ex3, e_ex4, e_ex5, e_ch, e_ch1, e_ch2, e_ch3, e_ch4, e_ch5, List.length_cons, List.length_nil, List.map_cons, List.map_nil, Nat.reduceAdd, Nat.reduceSub, List.replicate_succ, List.replicate_zero, List.cons_append, List.nil_append, List.append_nil, List.getElem?_cons_zero, List.getElem?_cons_succ, List.set_cons_zero, List.set_cons_succ, ags, ite_true, if_true, g_add, g_sub, g_lt, g_le, g_gt, g_ge, g_eqI, g_neI, g_abs, g_gcd, g_is, g_isNot, ok0, ok1, ok2, ok3, ok4, ok5, ok6, ok7, ok8, ok9, ok10, ok11, ok12, ok13, ok14, ok15, sizes_ok, h2, ix_list h3 hx]
abbrev tD (t : Rat × Rat × Rat) : PyData := .tuple [fD t.1, fD t.2.1, fD t.2.2]
abbrev gI : GF := gTp (gsCons (gNm 6) (gsCons (gNm 7) (gsCons (gNm 8) (gsNil))))
abbrev bI : SF := (seqF (ifSF (orF (notF (tstF (callF none g__law_three_right_3 (consF (varF 6) (consF (varF 7) (consF (varF 8) (nilF)))) (nilF)))) (notF (tstF (callF none g__law_order_right_3 (consF (varF 6) (consF (varF 7) (consF (varF 8) (nilF)))) (nilF))))) (retF (cF (.bool false))) (skipF))
    (ifSF (notF (tstF (callF none g__law_text_right_2 (consF (varF 6) (consF (varF 7) (nilF))) (nilF)))) (retF (cF (.bool false))) (skipF)))
section
variable {x0 x1 x2 x3 x4 x5 x9 x10 : Option S} {A B C : PyData}
theorem vv1 (h1 : F3 g__law_three_right_3 A B C (.bool true)) (h2 : F3 g__law_order_right_3 A B C (.bool true)) (h3 : F2 g__law_text_right_2 A B (.bool true)) : bI [x0, x1, x2, x3, x4, x5, some (.fz A), some (.fz B), some (.fz C), x9, x10] = some (.nx [x0, x1, x2, x3, x4, x5, some (.fz A), some (.fz B), some (.fz C), x9, x10]) := by
  simp only [e_seq, e_kseq, e_kseqR, e_kseqB, e_kseqC, e_skip, e_if, e_ifT, e_ifF, e_ret, e_kret, e_kretL, e_kretD, e_kretA, e_kretA2, e_set, e_kset, e_ksetL, e_ksetD, e_ksetS, e_ksetA, e_ksetA2, e_expr, e_knx, e_cvF, e_cvS, e_cvL, e_cvD, e_cfF, e_cfL, e_cdF, e_cdL, e_ckD, e_clL, e_pkF, e_pkL, e_pkA, e_fzF, e_fzL, e_fzA, e_var, e_c, e_op, e_o1, e_o2, e_o3, e_o4, e_tst, e_kt, e_and, e_andT, e_andF, e_or, e_orT, e_orF, e_not, e_knot, e_andV, e_andVT, e_andVF, e_orV, e_orVT, e_orVF, e_notV, e_knotV, e_ifE, e_ifET, e_ifEF, e_neg, e_kneg, e_nil, e_cons, e_a1F, e_a1S, e_a1L, e_a1A, e_a2, e_fa0, e_fa1, e_fa2, e_fa3, e_tup, e_ktup, e_ktup2, e_lst, e_klst, e_klst2, e_pa0, e_pa1, e_pa2, e_pa3, e_cl, e_kcl, e_kcl2, e_dget, e_d1, e_d2, e_d2i, e_d3, e_d4, e_dput, e_p1, e_p2, e_p3, e_p4, e_p5, e_knil, e_kcons, e_k1, e_k2, e_k3, e_disp, e_k4, e_nop, e_somep, e_ksome, e_sl, e_s1, e_s2, e_s3, e_gnm, e_gtp, e_gnil, e_gcons, e_kg, e_asg, e_as1, e_as2, e_as3, e_par, e_pr, e_pr2, e_it, e_i1, e_i2L, e_i2T, e_r1, e_kr1, e_for, e_kfor, e_l0, e_l1, e_l2, e_l3, e_l3c, e_l3b, e_l3r, e_w1, e_wT, e_wF, e_w2, e_fn, e_kfn, e_kfnN, e_kfn2, e_ent, e_out0, e_outN, e_outT, e_outF, e_kout, e_md0, e_md1, e_md2, e_md3, e_call, e_c1, e_c2, e_c3, e_c4, e_en, e_en0, e_es0, e_es, e_e1, e_e0, e_e2, e_e3, e_kp, e_kpL, e_kpD, e_fsS, e_fsF, e_fsA, e_fsL, e_kfr, e_le0, e_le1, e_le2, e_comp, e_lc, e_lc2, e_m0, e_m1, e_m2, e_m3, e_m3F, e_m4, e_m5, e_yes, e_wi0, e_wi1, e_star, e_star2, e_star3, e_isi, e_is1, e_is2, e_orE, e_orE1, e_orE2, e_app, e_ap1, e_ap2, e_ap3, e_ap4, e_ap5, e_ext, e_ex1, e_ex2, e_ex3, e_ex4, e_ex5, e_ch, e_ch1, e_ch2, e_ch3, e_ch4, e_ch5, List.length_cons, List.length_nil, List.map_cons, List.map_nil, Nat.reduceAdd, Nat.reduceSub, List.replicate_succ, List.replicate_zero, List.cons_append, List.nil_append, List.append_nil, List.getElem?_cons_zero, List.getElem?_cons_succ, List.set_cons_zero, List.set_cons_succ, ags, ite_true, if_true, g_add, g_sub, g_lt, g_le, g_gt, g_ge, g_eqI, g_neI, g_abs, g_gcd, g_is, g_isNot, ok0, ok1, ok2, ok3, ok4, ok5, ok6, ok7, ok8, ok9, ok10, ok11, ok12, ok13, ok14, ok15, h1, h2, h3, Bool.not_true]
theorem in_loop : ∀ (ts : List (Rat × Rat × Rat)) (x6 x7 x8 : Option S), (∀ t ∈ ts, Sz 30 t.1 ∧ Sz 30 t.2.1 ∧ Sz 30 t.2.2) →
    ∃ y6 y7 y8, loopF gI bI (ts.map tD) [x0, x1, x2, x3, x4, x5, x6, x7, x8, x9, x10] = some (.nx [x0, x1, x2, x3, x4, x5, y6, y7, y8, x9, x10])
  | [], x6, x7, x8, _ => ⟨x6, x7, x8, rfl⟩
  | t :: ts, x6, x7, x8, h => by
    obtain ⟨h1, h2, h3⟩ := h t (List.mem_cons_self ..)
    obtain ⟨y6, y7, y8, e⟩ := in_loop ts (some (.fz (fD t.1))) (some (.fz (fD t.2.1))) (some (.fz (fD t.2.2))) fun z hz => h z (List.mem_cons_of_mem _ hz)
    refine ⟨y6, y7, y8, ?_⟩
    rw [List.map_cons, e_l1]
    show kL1 gI bI _ (some [x0, x1, x2, x3, x4, x5, some (.fz (fD t.1)), some (.fz (fD t.2.1)), some (.fz (fD t.2.2)), x9, x10]) = _
    rw [e_l2, vv1 (three_ok h1 h2 h3) (order_ok h1 h2 h3) (text_ok h1 h2), e_l3, e]
end
theorem par3_ok {i j l : Nat} {f : AF} {ρ ρ1 : PSt} {a b c : PyData} (h : f ρ = some ([.fz a, .fz b, .fz c], ρ1)) : parF3 i j l f ρ = some (.nx (((ρ1.set i (some (.fz a))).set j (some (.fz b))).set l (some (.fz c)))) := by
  unfold parF3
  rw [h]
  rfl
abbrev aL : AF := (consF (callF (some 0) g__law_size_1 (consF (varF 1) (nilF)) (nilF)) (consF (callF (some 0) g__law_size_1 (consF (varF 1) (nilF)) (nilF)) (consF (callF (some 0) g__law_size_1 (consF (varF 1) (nilF)) (nilF)) (nilF))))
theorem aL_ok {x0 x2 x3 x4 x5 x6 x7 x8 x9 x10 : Option S} {k0 k1 k2 k3 : List (Key × PyData)} {A B C : PyData} (h1 : g__law_size_1 [.od k0] = some (.fz A, [.od k1])) (h2 : g__law_size_1 [.od k1] = some (.fz B, [.od k2])) (h3 : g__law_size_1 [.od k2] = some (.fz C, [.od k3])) :
    aL [x0, some (.od k0), x2, x3, x4, x5, x6, x7, x8, x9, x10] = some ([.fz A, .fz B, .fz C], [x0, some (.od k3), x2, x3, x4, x5, x6, x7, x8, x9, x10]) := by
  simp only [e_seq, e_kseq, e_kseqR, e_kseqB, e_kseqC, e_skip, e_if, e_ifT, e_ifF, e_ret, e_kret, e_kretL, e_kretD, e_kretA, e_kretA2, e_set, e_kset, e_ksetL, e_ksetD, e_ksetS, e_ksetA, e_ksetA2, e_expr, e_knx, e_cvF, e_cvS, e_cvL, e_cvD, e_cfF, e_cfL, e_cdF, e_cdL, e_ckD, e_clL, e_pkF, e_pkL, e_pkA, e_fzF, e_fzL, e_fzA, e_var, e_c, e_op, e_o1, e_o2, e_o3, e_o4, e_tst, e_kt, e_and, e_andT, e_andF, e_or, e_orT, e_orF, e_not, e_knot, e_andV, e_andVT, e_andVF, e_orV, e_orVT, e_orVF, e_notV, e_knotV, e_ifE, e_ifET, e_ifEF, e_neg, e_kneg, e_nil, e_cons, e_a1F, e_a1S, e_a1L, e_a1A, e_a2, e_fa0, e_fa1, e_fa2, e_fa3, e_tup, e_ktup, e_ktup2, e_lst, e_klst, e_klst2, e_pa0, e_pa1, e_pa2, e_pa3, e_cl, e_kcl, e_kcl2, e_dget, e_d1, e_d2, e_d2i, e_d3, e_d4, e_dput, e_p1, e_p2, e_p3, e_p4, e_p5, e_knil, e_kcons, e_k1, e_k2, e_k3, e_disp, e_k4, e_nop, e_somep, e_ksome, e_sl, e_s1, e_s2, e_s3, e_gnm, e_gtp, e_gnil, e_gcons, e_kg, e_asg, e_as1, e_as2, e_as3, e_par, e_pr, e_pr2, e_it, e_i1, e_i2L, e_i2T, e_r1, e_kr1, e_for, e_kfor, e_l0, e_l1, e_l2, e_l3, e_l3c, e_l3b, e_l3r, e_w1, e_wT, e_wF, e_w2, e_fn, e_kfn, e_kfnN, e_kfn2, e_ent, e_out0, e_outN, e_outT, e_outF, e_kout, e_md0, e_md1, e_md2, e_md3, e_call, e_c1, e_c2, e_c3, e_c4, e_en, e_en0, e_es0, e_es, e_e1, e_e0, e_e2, e_e3, e_kp, e_kpL, e_kpD, e_fsS, e_fsF, e_fsA, e_fsL, e_kfr, e_le0, e_le1, e_le2, e_comp, e_lc, e_lc2, e_m0, e_m1, e_m2, e_m3, e_m3F, e_m4, e_m5, e_yes, e_wi0, e_wi1, e_star, e_star2, e_star3, e_isi, e_is1, e_is2, e_orE, e_orE1, e_orE2, e_app, e_ap1, e_ap2, e_ap3, e_ap4, e_ap5, e_ext, e_ex1, e_ex2, e_ex3, e_ex4, e_ex5, e_ch, e_ch1, e_ch2, e_ch3, e_ch4, e_ch5, List.length_cons, List.length_nil, List.map_cons, List.map_nil, Nat.reduceAdd, Nat.reduceSub, List.replicate_succ, List.replicate_zero, List.cons_append, List.nil_append, List.append_nil, List.getElem?_cons_zero, List.getElem?_cons_succ, List.set_cons_zero, List.set_cons_succ, ags, ite_true, if_true, g_add, g_sub, g_lt, g_le, g_gt, g_ge, g_eqI, g_neI, g_abs, g_gcd, g_is, g_isNot, ok0, ok1, ok2, ok3, ok4, ok5, ok6, ok7, ok8, ok9, ok10, ok11, ok12, ok13, ok14, ok15, h1, h2, h3]
abbrev iL : IF := itI (tupF (consF (tupF (consF (varF 3) (consF (varF 4) (consF (varF 5) (nilF))))) (consF (tupF (consF (varF 4) (consF (varF 5) (consF (varF 3) (nilF))))) (consF (tupF (consF (varF 3) (consF (varF 3) (consF (varF 4) (nilF))))) (consF (tupF (consF (callF none g_fraction_sum_s (consF (varF 3) (consF (varF 4) (nilF))) (nilF)) (consF (varF 5) (consF (callF none g_fraction_product_s (consF (varF 3) (consF (varF 5) (nilF))) (nilF)) (nilF))))) (nilF))))))
theorem iL_ok {x0 x1 x2 x6 x7 x8 x9 x10 : Option S} {A B C D E : PyData} (h1 : F2 g_fraction_sum_s A B D) (h2 : F2 g_fraction_product_s A C E) :
    iL [x0, x1, x2, some (.fz A), some (.fz B), some (.fz C), x6, x7, x8, x9, x10] = some ([.tuple [A, B, C], .tuple [B, C, A], .tuple [A, A, B], .tuple [D, C, E]], [x0, x1, x2, some (.fz A), some (.fz B), some (.fz C), x6, x7, x8, x9, x10]) := by
  simp only [e_seq, e_kseq, e_kseqR, e_kseqB, e_kseqC, e_skip, e_if, e_ifT, e_ifF, e_ret, e_kret, e_kretL, e_kretD, e_kretA, e_kretA2, e_set, e_kset, e_ksetL, e_ksetD, e_ksetS, e_ksetA, e_ksetA2, e_expr, e_knx, e_cvF, e_cvS, e_cvL, e_cvD, e_cfF, e_cfL, e_cdF, e_cdL, e_ckD, e_clL, e_pkF, e_pkL, e_pkA, e_fzF, e_fzL, e_fzA, e_var, e_c, e_op, e_o1, e_o2, e_o3, e_o4, e_tst, e_kt, e_and, e_andT, e_andF, e_or, e_orT, e_orF, e_not, e_knot, e_andV, e_andVT, e_andVF, e_orV, e_orVT, e_orVF, e_notV, e_knotV, e_ifE, e_ifET, e_ifEF, e_neg, e_kneg, e_nil, e_cons, e_a1F, e_a1S, e_a1L, e_a1A, e_a2, e_fa0, e_fa1, e_fa2, e_fa3, e_tup, e_ktup, e_ktup2, e_lst, e_klst, e_klst2, e_pa0, e_pa1, e_pa2, e_pa3, e_cl, e_kcl, e_kcl2, e_dget, e_d1, e_d2, e_d2i, e_d3, e_d4, e_dput, e_p1, e_p2, e_p3, e_p4, e_p5, e_knil, e_kcons, e_k1, e_k2, e_k3, e_disp, e_k4, e_nop, e_somep, e_ksome, e_sl, e_s1, e_s2, e_s3, e_gnm, e_gtp, e_gnil, e_gcons, e_kg, e_asg, e_as1, e_as2, e_as3, e_par, e_pr, e_pr2, e_it, e_i1, e_i2L, e_i2T, e_r1, e_kr1, e_for, e_kfor, e_l0, e_l1, e_l2, e_l3, e_l3c, e_l3b, e_l3r, e_w1, e_wT, e_wF, e_w2, e_fn, e_kfn, e_kfnN, e_kfn2, e_ent, e_out0, e_outN, e_outT, e_outF, e_kout, e_md0, e_md1, e_md2, e_md3, e_call, e_c1, e_c2, e_c3, e_c4, e_en, e_en0, e_es0, e_es, e_e1, e_e0, e_e2, e_e3, e_kp, e_kpL, e_kpD, e_fsS, e_fsF, e_fsA, e_fsL, e_kfr, e_le0, e_le1, e_le2, e_comp, e_lc, e_lc2, e_m0, e_m1, e_m2, e_m3, e_m3F, e_m4, e_m5, e_yes, e_wi0, e_wi1, e_star, e_star2, e_star3, e_isi, e_is1, e_is2, e_orE, e_orE1, e_orE2, e_app, e_ap1, e_ap2, e_ap3, e_ap4, e_ap5, e_ext, e_ex1, e_ex2, e_ex3, e_ex4, e_ex5, e_ch, e_ch1, e_ch2, e_ch3, e_ch4, e_ch5, List.length_cons, List.length_nil, List.map_cons, List.map_nil, Nat.reduceAdd, Nat.reduceSub, List.replicate_succ, List.replicate_zero, List.cons_append, List.nil_append, List.append_nil, List.getElem?_cons_zero, List.getElem?_cons_succ, List.set_cons_zero, List.set_cons_succ, ags, ite_true, if_true, g_add, g_sub, g_lt, g_le, g_gt, g_ge, g_eqI, g_neI, g_abs, g_gcd, g_is, g_isNot, ok0, ok1, ok2, ok3, ok4, ok5, ok6, ok7, ok8, ok9, ok10, ok11, ok12, ok13, ok14, ok15, h1, h2]
abbrev bL : SF := seqF (parF3 3 4 5 aL) (forF iL gI bI)
theorem turn {c : List Int} (a l n : Int) {x0 x2 : Option S} (x3 x4 x5 x6 x7 x8 : Option S) (ha : 0 ≤ a) (hn : 0 ≤ n) (h : n + 10 < 1000000000) : ∃ (a' l' : Int) (y3 y4 y5 y6 y7 y8 : Option S), 0 ≤ a' ∧
    bL [x0, some (.od (fdL c a l n)), x2, x3, x4, x5, x6, x7, x8, none, none] = some (.nx [x0, some (.od (fdL c a' l' (n + 1 + 1 + 1))), x2, y3, y4, y5, y6, y7, y8, none, none]) := by
  obtain ⟨p, a1, l1, h1, h2, h3⟩ := size_ok c a l n ha hn (by omega)
  obtain ⟨q, a2, l2, i1, i2, i3⟩ := size_ok c a1 l1 (n + 1) h1 (by omega) (by omega)
  obtain ⟨r, a3, l3, j1, j2, j3⟩ := size_ok c a2 l2 (n + 1 + 1) i1 (by omega) (by omega)
  have k : ∀ {x : Rat}, Sz 14 x → Sz M9 x := fun h => h.up (by decide)
  have k3 : ∀ {x : Rat}, Sz 14 x → Sz 30 x := fun h => h.up (by decide)
  have pa := par3_ok (i := 3) (j := 4) (l := 5) (aL_ok (x0 := x0) (x2 := x2) (x3 := x3) (x4 := x4) (x5 := x5) (x6 := x6) (x7 := x7) (x8 := x8) (x9 := none) (x10 := none) h3 i3 j3)
  obtain ⟨y6, y7, y8, e⟩ := in_loop (x0 := x0) (x1 := some (.od (fdL c a3 l3 (n + 1 + 1 + 1)))) (x2 := x2) (x3 := some (.fz (fD p))) (x4 := some (.fz (fD q))) (x5 := some (.fz (fD r))) (x9 := none) (x10 := none) [(p, q, r), (q, r, p), (p, p, q), (p + q, r, p * r)] x6 x7 x8 (by
    intro t ht
    rcases List.mem_cons.mp ht with e | ht
    · subst e; exact ⟨k3 h2, k3 i2, k3 j2⟩
    rcases List.mem_cons.mp ht with e | ht
    · subst e; exact ⟨k3 i2, k3 j2, k3 h2⟩
    rcases List.mem_cons.mp ht with e | ht
    · subst e; exact ⟨k3 h2, k3 h2, k3 i2⟩
    rcases List.mem_cons.mp ht with e | ht
    · subst e; exact ⟨(h2.add i2).up (by decide), k3 j2, (h2.mul j2).up (by decide)⟩
    cases ht)
  have it := iL_ok (x0 := x0) (x1 := some (.od (fdL c a3 l3 (n + 1 + 1 + 1)))) (x2 := x2) (x6 := x6) (x7 := x7) (x8 := x8) (x9 := none) (x10 := none) (sum2 (k h2) (k i2)) (prod2 (k h2) (k j2))
  exact ⟨a3, l3, _, _, _, y6, y7, y8, j1, seq_ok pa (for_ok it e)⟩
theorem main_loop {c : List Int} {x0 : Option S} : ∀ (js : List PyData) (a l n : Int) (x2 x3 x4 x5 x6 x7 x8 : Option S), 0 ≤ a → 0 ≤ n → n + 10 * js.length + 10 < 1000000000 → ∃ (a' l' n' : Int) (y2 y3 y4 y5 y6 y7 y8 : Option S),
    loopF (gNm 2) bL js [x0, some (.od (fdL c a l n)), x2, x3, x4, x5, x6, x7, x8, none, none] = some (.nx [x0, some (.od (fdL c a' l' n')), y2, y3, y4, y5, y6, y7, y8, none, none])
  | [], a, l, n, x2, x3, x4, x5, x6, x7, x8, _, _, _ => ⟨a, l, n, x2, x3, x4, x5, x6, x7, x8, rfl⟩
  | j :: js, a, l, n, x2, x3, x4, x5, x6, x7, x8, ha, hn, h => by
    rw [List.length_cons] at h
    obtain ⟨a1, l1, y3, y4, y5, y6, y7, y8, b1, e⟩ := turn (c := c) (x0 := x0) (x2 := some (.fz j)) a l n x3 x4 x5 x6 x7 x8 ha hn (by omega)
    obtain ⟨a2, l2, n2, z2, z3, z4, z5, z6, z7, z8, e2⟩ := main_loop (c := c) (x0 := x0) js a1 l1 (n + 1 + 1 + 1) (some (.fz j)) y3 y4 y5 y6 y7 y8 b1 (by omega) (by omega)
    refine ⟨a2, l2, n2, z2, z3, z4, z5, z6, z7, z8, ?_⟩
    rw [← e2, e_l1, e_gnm, e_l2]
    simp only [List.set_cons_zero, List.set_cons_succ]
    rw [e, e_l3]
abbrev bM : SF := (forF (itI (tupF (consF (negF (cF (.int 4))) (consF (negF (cF (.int 1))) (consF (cF (.int 2)) (consF (cF (.int 6)) (consF (cF (.int 9)) (nilF)))))))) (gNm 10) (seqF (setF 6 (callF none g_fraction_2 (consF (varF 9) (consF (varF 10) (nilF))) (nilF)))
    (ifSF (orF (notF (tstF (callF none g_is_fraction_1 (consF (varF 6) (nilF)) (nilF)))) (orF (tstF (opF gNe (callF none g_fraction_2 (consF (opF gMul (cF (.int 5)) (varF 9)) (consF (opF gMul (cF (.int 5)) (varF 10)) (nilF))) (nilF)) (varF 6))) (tstF (opF gNe (opF gMul (opF gIx (varF 6) (cF (.int 0))) (varF 10)) (opF gMul (varF 9) (opF gIx (varF 6) (cF (.int 1)))))))) (retF (cF (.bool false))) (skipF))))
theorem second {x0 x1 x2 x3 x4 x5 x6 x7 x8 : Option S} : forF (rng2 (consF (negF (cF (.int 7))) (consF (cF (.int 10)) (nilF)))) (gNm 9) bM [x0, x1, x2, x3, x4, x5, x6, x7, x8, none, none] = some (.nx [x0, x1, x2, x3, x4, x5, some (.fz (.tuple [.int 1, .int 1])), x7, x8, some (.fz (.int 9)), some (.fz (.int 9))]) := by kernel_rfl
theorem rng10 {ρ : PSt} : rng1 (consF (cF (.int 10)) (nilF)) ρ = some (rngD 0 10, ρ) := rfl
theorem set_f {A : FF} {ns : List Int} {kv : List (Key × PyData)} {x2 x3 x4 x5 x6 x7 x8 x9 x10 : Option S} (h : A [.sc ns] = some (.od kv, [.sc ns])) : setF 1 (callF none A (consF (varF 0) (nilF)) (nilF)) [some (.sc ns), none, x2, x3, x4, x5, x6, x7, x8, x9, x10] = some (.nx [some (.sc ns), some (.od kv), x2, x3, x4, x5, x6, x7, x8, x9, x10]) := by
  simp only [e_seq, e_kseq, e_kseqR, e_kseqB, e_kseqC, e_skip, e_if, e_ifT, e_ifF, e_ret, e_kret, e_kretL, e_kretD, e_kretA, e_kretA2, e_set, e_kset, e_ksetL, e_ksetD, e_ksetS, e_ksetA, e_ksetA2, e_expr, e_knx, e_cvF, e_cvS, e_cvL, e_cvD, e_cfF, e_cfL, e_cdF, e_cdL, e_ckD, e_clL, e_pkF, e_pkL, e_pkA, e_fzF, e_fzL, e_fzA, e_var, e_c, e_op, e_o1, e_o2, e_o3, e_o4, e_tst, e_kt, e_and, e_andT, e_andF, e_or, e_orT, e_orF, e_not, e_knot, e_andV, e_andVT, e_andVF, e_orV, e_orVT, e_orVF, e_notV, e_knotV, e_ifE, e_ifET, e_ifEF, e_neg, e_kneg, e_nil, e_cons, e_a1F, e_a1S, e_a1L, e_a1A, e_a2, e_fa0, e_fa1, e_fa2, e_fa3, e_tup, e_ktup, e_ktup2, e_lst, e_klst, e_klst2, e_pa0, e_pa1, e_pa2, e_pa3, e_cl, e_kcl, e_kcl2, e_dget, e_d1, e_d2, e_d2i, e_d3, e_d4, e_dput, e_p1, e_p2, e_p3, e_p4, e_p5, e_knil, e_kcons, e_k1, e_k2, e_k3, e_disp, e_k4, e_nop, e_somep, e_ksome, e_sl, e_s1, e_s2, e_s3, e_gnm, e_gtp, e_gnil, e_gcons, e_kg, e_asg, e_as1, e_as2, e_as3, e_par, e_pr, e_pr2, e_it, e_i1, e_i2L, e_i2T, e_r1, e_kr1, e_for, e_kfor, e_l0, e_l1, e_l2, e_l3, e_l3c, e_l3b, e_l3r, e_w1, e_wT, e_wF, e_w2, e_fn, e_kfn, e_kfnN, e_kfn2, e_ent, e_out0, e_outN, e_outT, e_outF, e_kout, e_md0, e_md1, e_md2, e_md3, e_call, e_c1, e_c2, e_c3, e_c4, e_en, e_en0, e_es0, e_es, e_e1, e_e0, e_e2, e_e3, e_kp, e_kpL, e_kpD, e_fsS, e_fsF, e_fsA, e_fsL, e_kfr, e_le0, e_le1, e_le2, e_comp, e_lc, e_lc2, e_m0, e_m1, e_m2, e_m3, e_m3F, e_m4, e_m5, e_yes, e_wi0, e_wi1, e_star, e_star2, e_star3, e_isi, e_is1, e_is2, e_orE, e_orE1, e_orE2, e_app, e_ap1, e_ap2, e_ap3, e_ap4, e_ap5, e_ext, e_ex1, e_ex2, e_ex3, e_ex4, e_ex5, e_ch, e_ch1, e_ch2, e_ch3, e_ch4, e_ch5, List.length_cons, List.length_nil, List.map_cons, List.map_nil, Nat.reduceAdd, Nat.reduceSub, List.replicate_succ, List.replicate_zero, List.cons_append, List.nil_append, List.append_nil, List.getElem?_cons_zero, List.getElem?_cons_succ, List.set_cons_zero, List.set_cons_succ, ags, ite_true, if_true, g_add, g_sub, g_lt, g_le, g_gt, g_ge, g_eqI, g_neI, g_abs, g_gcd, g_is, g_isNot, ok0, ok1, ok2, ok3, ok4, ok5, ok6, ok7, ok8, ok9, ok10, ok11, ok12, ok13, ok14, ok15, h]
theorem fnL {m : SF} {ns : List Int} {v : PyData} {x1 x2 x3 x4 x5 x6 x7 x8 x9 x10 : Option S} (h : m [some (.sc ns), none, none, none, none, none, none, none, none, none, none] = some (.rt (.fz v) [some (.sc ns), x1, x2, x3, x4, x5, x6, x7, x8, x9, x10])) : fnF 1 11 (mdL none) m [.sc ns] = some (.fz v, [.sc ns]) := by
  simp only [e_seq, e_kseq, e_kseqR, e_kseqB, e_kseqC, e_skip, e_if, e_ifT, e_ifF, e_ret, e_kret, e_kretL, e_kretD, e_kretA, e_kretA2, e_set, e_kset, e_ksetL, e_ksetD, e_ksetS, e_ksetA, e_ksetA2, e_expr, e_knx, e_cvF, e_cvS, e_cvL, e_cvD, e_cfF, e_cfL, e_cdF, e_cdL, e_ckD, e_clL, e_pkF, e_pkL, e_pkA, e_fzF, e_fzL, e_fzA, e_var, e_c, e_op, e_o1, e_o2, e_o3, e_o4, e_tst, e_kt, e_and, e_andT, e_andF, e_or, e_orT, e_orF, e_not, e_knot, e_andV, e_andVT, e_andVF, e_orV, e_orVT, e_orVF, e_notV, e_knotV, e_ifE, e_ifET, e_ifEF, e_neg, e_kneg, e_nil, e_cons, e_a1F, e_a1S, e_a1L, e_a1A, e_a2, e_fa0, e_fa1, e_fa2, e_fa3, e_tup, e_ktup, e_ktup2, e_lst, e_klst, e_klst2, e_pa0, e_pa1, e_pa2, e_pa3, e_cl, e_kcl, e_kcl2, e_dget, e_d1, e_d2, e_d2i, e_d3, e_d4, e_dput, e_p1, e_p2, e_p3, e_p4, e_p5, e_knil, e_kcons, e_k1, e_k2, e_k3, e_disp, e_k4, e_nop, e_somep, e_ksome, e_sl, e_s1, e_s2, e_s3, e_gnm, e_gtp, e_gnil, e_gcons, e_kg, e_asg, e_as1, e_as2, e_as3, e_par, e_pr, e_pr2, e_it, e_i1, e_i2L, e_i2T, e_r1, e_kr1, e_for, e_kfor, e_l0, e_l1, e_l2, e_l3, e_l3c, e_l3b, e_l3r, e_w1, e_wT, e_wF, e_w2, e_fn, e_kfn, e_kfnN, e_kfn2, e_ent, e_out0, e_outN, e_outT, e_outF, e_kout, e_md0, e_md1, e_md2, e_md3, e_call, e_c1, e_c2, e_c3, e_c4, e_en, e_en0, e_es0, e_es, e_e1, e_e0, e_e2, e_e3, e_kp, e_kpL, e_kpD, e_fsS, e_fsF, e_fsA, e_fsL, e_kfr, e_le0, e_le1, e_le2, e_comp, e_lc, e_lc2, e_m0, e_m1, e_m2, e_m3, e_m3F, e_m4, e_m5, e_yes, e_wi0, e_wi1, e_star, e_star2, e_star3, e_isi, e_is1, e_is2, e_orE, e_orE1, e_orE2, e_app, e_ap1, e_ap2, e_ap3, e_ap4, e_ap5, e_ext, e_ex1, e_ex2, e_ex3, e_ex4, e_ex5, e_ch, e_ch1, e_ch2, e_ch3, e_ch4, e_ch5, List.length_cons, List.length_nil, List.map_cons, List.map_nil, Nat.reduceAdd, Nat.reduceSub, List.replicate_succ, List.replicate_zero, List.cons_append, List.nil_append, List.append_nil, List.getElem?_cons_zero, List.getElem?_cons_succ, List.set_cons_zero, List.set_cons_succ, ags, ite_true, if_true, g_add, g_sub, g_lt, g_le, g_gt, g_ge, g_eqI, g_neI, g_abs, g_gcd, g_is, g_isNot, ok0, ok1, ok2, ok3, ok4, ok5, ok6, ok7, ok8, ok9, ok10, ok11, ok12, ok13, ok14, ok15, h]
theorem pure_law : ∀ ns : List Int, ns.length ≤ 63 → g_law [.sc ns] = some (.fz (.bool true), [.sc ns]) := by
  intro ns h
  have fo := feed_ok ns h
  obtain ⟨a, l, n, y2, y3, y4, y5, y6, y7, y8, e⟩ := main_loop (c := ns) (x0 := some (.sc ns)) (rngD 0 10) 0 0 0 none none none none none none none (by decide) (by decide) (by decide)
  unfold g_law m_law
  exact fnL (seq_ok (set_f fo) (seq_ok (for_ok rng10 e) (seq_ok second (ret_ok rfl))))
end LW

open PySem PySem.W PySem.Calls PyProof.Rows
theorem PySem.Challenge.cw_stackorder_k08_whole_fractions_holds : PySem.Challenge.rw_stackorder_k08_whole_fractions.Holds := by
  w_on; o_law; k_head; (case hw => w_witness2)
  k_fill
  refine DL.walk_D (l := PySem.Challenge.rw_stackorder_k08_whole_fractions) (n := 63) (k := 7) (x := "_law_script") (g := LW.g_law) rfl (by decide) rfl ⟨rfl, by decide, by decide⟩ (fun w h Y => PySem.W.kIn_of Y) ?F LW.pure_law
  case F =>
    intro w mg fa h KX G hmg
    exact LW.facts KX G hmg ⟨by unfold He.SaysD; kernel_rfl, by kernel_rfl⟩ (by kernel_rfl)
