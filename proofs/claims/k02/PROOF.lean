import PyProof.Rows.All
import Wide.All
import OpenK.AllK
import Wide.FinOn
import HandS.ForMost
import HandS.Flow
import HandS.Conv
import HandS.Zip
import HandS.IsInst
import HandS.Deep
import HandS.TupAny
import HandS.TupMul
import HandS.Wide
import HandS.WideBits
import HandS.Walk
import HandS.ExcIs
import HandS.TryMany
import HandS.TryOnly
import HandS.More
import PyProof.TypeEq
import HandS.WordsExc
import HandS.TupLe
import HandS.Ends
import KE.GoesNew
import PyProof.ReprBulk
import PySem.Challenge.RW_severalmaps_k02_sums_and_turned_modules
set_option Elab.async false
set_option linter.all false
set_option maxRecDepth 100000
/-! Pi: a small pure reading of the program's own language, over data; and that the model does as it says. -/
namespace Pi
open PySem PySem.Spec PyProof.Rows L2

abbrev D := PyData

/-! ### values as data, read in an abstract heap -/
def keyD : Key → D
  | .inl i => .int i
  | .inr x => .str x

mutual
inductive Rp (K : PySem.W.Frag) (F : Hp) : V → D → Prop
  | non : Rp K F .non .none
  | bl (b : Bool) : Rp K F (.bl b) (.bool b)
  | int (i : Int) : Rp K F (.int i) (.int i)
  | str (x : Str) : Rp K F (.str x) (.str x)
  | lst {a : Addr} {xs : List V} {ds : List D} : SqL K F a xs → RpAll K F xs ds → Rp K F (.ref a) (.list ds)
  | tup {a : Addr} {xs : List V} {ds : List D} : SqT K F a xs → RpAll K F xs ds → Rp K F (.ref a) (.tuple ds)
  | dct {a : Addr} {ks : List (Key × V)} {ds : List (D × D)} : Rd F a (.dK ks) → RpKV K F ks ds → Rp K F (.ref a) (.dict ds)
inductive RpAll (K : PySem.W.Frag) (F : Hp) : List V → List D → Prop
  | nil : RpAll K F [] []
  | cons {v : V} {vs : List V} {d : D} {ds : List D} : Rp K F v d → RpAll K F vs ds → RpAll K F (v :: vs) (d :: ds)
inductive RpKV (K : PySem.W.Frag) (F : Hp) : List (Key × V) → List (D × D) → Prop
  | nil : RpKV K F [] []
  | cons {k : Key} {v : V} {ks : List (Key × V)} {d : D} {ds : List (D × D)} : Rp K F v d → RpKV K F ks ds → RpKV K F ((k, v) :: ks) ((keyD k, d) :: ds)
end

/-- all that can be read in F as data can be read in G -/
def Le (F G : Hp) : Prop := (∀ a xs, Rd F a (.lst xs) → Rd G a (.lst xs)) ∧ (∀ a xs, Rd F a (.tup xs) → Rd G a (.tup xs)) ∧ ∀ a ks, Rd F a (.dK ks) → Rd G a (.dK ks)
theorem Le.refl (F : Hp) : Le F F := ⟨fun _ _ h => h, fun _ _ h => h, fun _ _ h => h⟩
theorem Le.trans {F G H : Hp} (a : Le F G) (b : Le G H) : Le F H := ⟨fun _ _ h => b.1 _ _ (a.1 _ _ h), fun _ _ h => b.2.1 _ _ (a.2.1 _ _ h), fun _ _ h => b.2.2 _ _ (a.2.2 _ _ h)⟩
theorem rd_same {F G : Hp} (s : Same F G) {a : Addr} {u : HO} (h : Rd F a u) : Rd G a u := by
  rcases h with h | ⟨o, h⟩
  · exact .inl (s _ _ h)
  · exact .inr ⟨o, s _ _ h⟩
theorem Le.of {F G : Hp} (s : Same F G) : Le F G := ⟨fun _ _ h => rd_same s h, fun _ _ h => rd_same s h, fun _ _ h => rd_same s h⟩
theorem Le.l {K : PySem.W.Frag} {F G : Hp} (s : Le F G) {a : Addr} {xs : List V} (h : SqL K F a xs) : SqL K G a xs := h.imp (s.1 _ _) id
theorem Le.t {K : PySem.W.Frag} {F G : Hp} (s : Le F G) {a : Addr} {xs : List V} (h : SqT K F a xs) : SqT K G a xs := h.imp (s.2.1 _ _) id

mutual
theorem Rp.le {K : PySem.W.Frag} {F G : Hp} (s : Le F G) : ∀ {v : V} {d : D}, Rp K F v d → Rp K G v d
  | _, _, .non => .non
  | _, _, .bl b => .bl b
  | _, _, .int i => .int i
  | _, _, .str x => .str x
  | _, _, .lst h r => .lst (s.l h) (r.le s)
  | _, _, .tup h r => .tup (s.t h) (r.le s)
  | _, _, .dct h r => .dct (s.2.2 _ _ h) (r.le s)
theorem RpAll.le {K : PySem.W.Frag} {F G : Hp} (s : Le F G) : ∀ {vs : List V} {ds : List D}, RpAll K F vs ds → RpAll K G vs ds
  | _, _, .nil => .nil
  | _, _, .cons h r => .cons (h.le s) (r.le s)
theorem RpKV.le {K : PySem.W.Frag} {F G : Hp} (s : Le F G) : ∀ {vs : List (Key × V)} {ds : List (D × D)}, RpKV K F vs ds → RpKV K G vs ds
  | _, _, .nil => .nil
  | _, _, .cons h r => .cons (h.le s) (r.le s)
end
theorem RpAll.length {K : PySem.W.Frag} {F : Hp} : ∀ {vs : List V} {ds : List D}, RpAll K F vs ds → vs.length = ds.length
  | _, _, .nil => rfl
  | _, _, .cons _ r => congrArg (· + 1) r.length
theorem RpAll.append {K : PySem.W.Frag} {F : Hp} : ∀ {vs : List V} {ds : List D} {us : List V} {es : List D}, RpAll K F vs ds → RpAll K F us es → RpAll K F (vs ++ us) (ds ++ es)
  | _, _, _, _, .nil, s => s
  | _, _, _, _, .cons h r, s => .cons h (r.append s)
theorem RpAll.get {K : PySem.W.Frag} {F : Hp} : ∀ {vs : List V} {ds : List D} {i : Nat} {d : D}, RpAll K F vs ds → ds[i]? = some d → ∃ v, vs[i]? = some v ∧ Rp K F v d
  | _, _, i, _, .nil, e => by simp at e
  | _, _, 0, _, .cons h _, e => by simp at e; subst e; exact ⟨_, rfl, h⟩
  | _, _, i + 1, _, .cons _ r, e => by
    obtain ⟨v, h1, h2⟩ := r.get (i := i) (by simpa using e)
    exact ⟨v, by simpa using h1, h2⟩
theorem RpAll.getV {K : PySem.W.Frag} {F : Hp} {vs : List V} {ds : List D} {i : Nat} {v : V} (h : RpAll K F vs ds) (e : vs[i]? = some v) : ∃ d, ds[i]? = some d ∧ Rp K F v d := by
  have hi : i < ds.length := by rw [← h.length]; exact (List.getElem?_eq_some_iff.mp e).1
  obtain ⟨w, h1, h2⟩ := h.get (List.getElem?_eq_getElem hi)
  rw [e] at h1; cases h1
  exact ⟨_, List.getElem?_eq_getElem hi, h2⟩
theorem RpAll.set {K : PySem.W.Frag} {F : Hp} {v : V} {d : D} (q : Rp K F v d) : ∀ {vs : List V} {ds : List D} (i : Nat), RpAll K F vs ds → RpAll K F (vs.set i v) (ds.set i d)
  | _, _, _, .nil => .nil
  | _, _, 0, .cons _ r => .cons q r
  | _, _, i + 1, .cons h r => .cons h (r.set q i)
theorem RpAll.take {K : PySem.W.Frag} {F : Hp} : ∀ {vs : List V} {ds : List D} (n : Nat), RpAll K F vs ds → RpAll K F (vs.take n) (ds.take n)
  | _, _, 0, _ => by simp only [List.take_zero]; exact .nil
  | _, _, _ + 1, .nil => .nil
  | _, _, n + 1, .cons h r => .cons h (r.take n)
theorem RpAll.drop {K : PySem.W.Frag} {F : Hp} : ∀ {vs : List V} {ds : List D} (n : Nat), RpAll K F vs ds → RpAll K F (vs.drop n) (ds.drop n)
  | _, _, 0, r => r
  | _, _, _ + 1, .nil => .nil
  | _, _, n + 1, .cons h r => r.drop n

/-! ### slots, results -/
inductive Slot where
  | un
  | val (d : D)
  | own (d : D) (b : Bool)
inductive RV where
  | val (d : D)
  | own (d : D)
  | slot (i : Nat)
abbrev Env := List Slot
inductive Res (α : Type) where
  | ok (a : α) (ρ : Env)
  | ex (c : Nat) (ρ : Env)

/-- a changeable object of one's own at a, its items read in F -/
def OwnAt (K : PySem.W.Frag) (F H : Hp) (a : Addr) : D → Prop
  | .list ds => ∃ xs, H a = some (.lst xs) ∧ RpAll K F xs ds
  | .dict ds => ∃ ks, H a = some (.dK ks) ∧ RpKV K F ks ds
  | _ => False

structure Rel (K : PySem.W.Frag) (B : Nat → Option Addr) (ρ : Env) (F Fr H : Hp) (σ : L2.St) : Prop where
  len : σ.length = ρ.length
  val : ∀ (i : Nat) (d : D), ρ[i]? = some (Slot.val d) → ∃ v, σ[i]? = some (some v) ∧ Rp K F v d
  own : ∀ (i : Nat) (d : D) (b : Bool), ρ[i]? = some (Slot.own d b) → ∃ a, σ[i]? = some (some (.ref a)) ∧ F a = none ∧ Fr a = none ∧ OwnAt K F H a d
  apart : ∀ (i j : Nat) (d : D) (b : Bool) (d' : D) (b' : Bool) (a : Addr), ρ[i]? = some (Slot.own d b) → ρ[j]? = some (Slot.own d' b') → σ[i]? = some (some (.ref a)) → σ[j]? = some (some (.ref a)) → i = j
  fz : Same F H
  fr : ∀ a o, Fr a = some o → H a = some o ∧ F a = none
  bor : ∀ (i : Nat) (a : Addr), B i = some a → σ[i]? = some (some (.ref a)) ∧ ∃ d, ρ[i]? = some (Slot.own d true)

def RVRel (K : PySem.W.Frag) (ρ : Env) (F Fr H : Hp) (σ : L2.St) (v : V) : RV → Prop
  | .val d => Rp K F v d
  | .own d => ∃ a, v = .ref a ∧ F a = none ∧ Fr a = none ∧ OwnAt K F H a d ∧ ∀ (i : Nat) (d' : D) (b : Bool), ρ[i]? = some (Slot.own d' b) → σ[i]? ≠ some (some (.ref a))
  | .slot i => σ[i]? = some (some v)

/-- what a result is worth now -/
def rd (ρ : Env) : RV → Option D
  | .val d => some d
  | .own d => some d
  | .slot i => match ρ[i]? with
    | some (.val d) => some d
    | some (.own d _) => some d
    | _ => none
/-- a result that is kept: a changeable object becomes a fixed one -/
def esc (ρ : Env) : RV → Option (D × Env)
  | .val d => some (d, ρ)
  | .own d => some (d, ρ)
  | .slot i => match ρ[i]? with
    | some (.val d) => some (d, ρ)
    | some (.own d false) => some (d, ρ.set i (.val d))
    | _ => none

section
variable {K : PySem.W.Frag} {B : Nat → Option Addr} {ρ : Env} {F Fr H : Hp} {σ : L2.St}
theorem OwnAt.le {F G : Hp} (s : Le F G) {a : Addr} {d : D} (h : OwnAt K F H a d) : OwnAt K G H a d := by
  cases d with
  | list ds => obtain ⟨xs, h1, h2⟩ := h; exact ⟨xs, h1, h2.le s⟩
  | dict ds => obtain ⟨xs, h1, h2⟩ := h; exact ⟨xs, h1, h2.le s⟩
  | _ => exact h
theorem OwnAt.there {a : Addr} {d : D} (h : OwnAt K F H a d) : ∃ o, H a = some o := by
  cases d with
  | list ds => obtain ⟨xs, h1, h2⟩ := h; exact ⟨_, h1⟩
  | dict ds => obtain ⟨xs, h1, h2⟩ := h; exact ⟨_, h1⟩
  | _ => exact h.elim
theorem OwnAt.mv {H' : Hp} {a : Addr} {d : D} (h : OwnAt K F H a d) (e : H' a = H a) : OwnAt K F H' a d := by
  cases d with
  | list ds => obtain ⟨xs, h1, h2⟩ := h; exact ⟨xs, by rw [e]; exact h1, h2⟩
  | dict ds => obtain ⟨xs, h1, h2⟩ := h; exact ⟨xs, by rw [e]; exact h1, h2⟩
  | _ => exact h

/-- a new fixed object -/
theorem Rel.new (r : Rel K B ρ F Fr H σ) {p : Addr} {o : HO} (hp : H p = none) : Rel K B ρ (upd F p o) Fr (upd H p o) σ ∧ Same F (upd F p o) := by
  have fp : F p = none := by
    cases e : F p with
    | none => rfl
    | some u => rw [r.fz _ _ e] at hp; cases hp
  have sf : Same F (upd F p o) := fun b u e => by
    rw [upd_ne (ne_of_none e fp)]; exact e
  refine ⟨⟨r.len, fun i d e => ?_, fun i d b e => ?_, r.apart, fun b u e => ?_, fun b u e => ?_, r.bor⟩, sf⟩
  · obtain ⟨v, h1, h2⟩ := r.val i d e
    exact ⟨v, h1, h2.le (.of sf)⟩
  · obtain ⟨a, h1, h2, h3, h4⟩ := r.own i d b e
    obtain ⟨u, hu⟩ := h4.there
    have ne : a ≠ p := ne_of_none hu hp
    exact ⟨a, h1, by rw [upd_ne ne]; exact h2, h3, (h4.le (.of sf)).mv (upd_ne ne)⟩
  · by_cases hb : b = p
    · subst hb; rw [upd_same] at e ⊢; exact e
    · rw [upd_ne hb] at e ⊢; exact r.fz _ _ e
  · obtain ⟨h1, h2⟩ := r.fr b u e
    have ne : b ≠ p := ne_of_none h1 hp
    rw [upd_ne ne, upd_ne ne]
    exact ⟨h1, h2⟩

/-- .. a new changeable one is not in the way -/
theorem Rel.newOwn (r : Rel K B ρ F Fr H σ) {p : Addr} {o : HO} (hp : H p = none) : Rel K B ρ F Fr (upd H p o) σ := by
  refine ⟨r.len, r.val, fun i d b e => ?_, r.apart, fun b u e => ?_, fun b u e => ?_, r.bor⟩
  · obtain ⟨a, h1, h2, h3, h4⟩ := r.own i d b e
    obtain ⟨u, hu⟩ := h4.there
    exact ⟨a, h1, h2, h3, h4.mv (upd_ne (ne_of_none hu hp))⟩
  · rw [upd_ne (ne_of_none (r.fz _ _ e) hp)]; exact r.fz _ _ e
  · obtain ⟨h1, h2⟩ := r.fr b u e
    rw [upd_ne (ne_of_none h1 hp)]
    exact ⟨h1, h2⟩
theorem Rel.fnone (r : Rel K B ρ F Fr H σ) {p : Addr} (hp : H p = none) : F p = none ∧ Fr p = none := by
  constructor
  · cases e : F p with
    | none => rfl
    | some u => rw [r.fz _ _ e] at hp; cases hp
  · cases e : Fr p with
    | none => rfl
    | some u => rw [(r.fr _ _ e).1] at hp; cases hp
theorem Rel.slotne (r : Rel K B ρ F Fr H σ) {p : Addr} (hp : H p = none) : ∀ (i : Nat) (d' : D) (b : Bool), ρ[i]? = some (Slot.own d' b) → σ[i]? ≠ some (some (.ref p)) := fun i d b e z => by
  obtain ⟨a, h1, _, _, h4⟩ := r.own i d b e
  rw [h1] at z; cases z
  obtain ⟨u, hu⟩ := h4.there
  rw [hu] at hp; cases hp

/-- a fresh changeable object is fixed -/
theorem Rel.fixOwn (r : Rel K B ρ F Fr H σ) {v : V} {d : D} (h : RVRel K ρ F Fr H σ v (.own d)) : ∃ F', Same F F' ∧ Rel K B ρ F' Fr H σ ∧ Rp K F' v d := by
  obtain ⟨a, rfl, h1, h2, h3, h4⟩ := h
  obtain ⟨o, ho⟩ := h3.there
  have sf : Same F (upd F a o) := fun b u e => by rw [upd_ne (ne_of_none e h1)]; exact e
  refine ⟨upd F a o, sf, ⟨r.len, fun i d e => ?_, fun i d b e => ?_, r.apart, fun b u e => ?_, fun b u e => ?_, r.bor⟩, ?_⟩
  · obtain ⟨v, q1, q2⟩ := r.val i d e
    exact ⟨v, q1, q2.le (.of sf)⟩
  · obtain ⟨a', q1, q2, q3, q4⟩ := r.own i d b e
    have ne : a' ≠ a := fun z => h4 i d b e (by rw [q1, z])
    exact ⟨a', q1, by rw [upd_ne ne]; exact q2, q3, q4.le (.of sf)⟩
  · by_cases hb : b = a
    · subst hb; rw [upd_same] at e; cases e; exact ho
    · rw [upd_ne hb] at e; exact r.fz _ _ e
  · obtain ⟨q1, q2⟩ := r.fr b u e
    have ne : b ≠ a := fun z => by rw [z, h2] at e; cases e
    rw [upd_ne ne]
    exact ⟨q1, q2⟩
  · cases d with
    | list ds => obtain ⟨xs, e1, e2⟩ := h3; rw [ho] at e1; cases e1; exact .lst (.inl (.inl upd_same)) (e2.le (.of sf))
    | dict ds => obtain ⟨xs, e1, e2⟩ := h3; rw [ho] at e1; cases e1; exact .dct (.inl upd_same) (e2.le (.of sf))
    | _ => exact h3.elim
/-- a slot's changeable object is fixed -/
theorem Rel.fixSlot (r : Rel K B ρ F Fr H σ) {i : Nat} {v : V} {d : D} (hi : ρ[i]? = some (Slot.own d false)) (hv : σ[i]? = some (some v)) : ∃ F', Same F F' ∧ Rel K B (ρ.set i (.val d)) F' Fr H σ ∧ Rp K F' v d := by
  obtain ⟨a, g1, h1, h2, h3⟩ := r.own i d false hi
  rw [hv] at g1; cases g1
  obtain ⟨o, ho⟩ := h3.there
  have sf : Same F (upd F a o) := fun b u e => by rw [upd_ne (ne_of_none e h1)]; exact e
  have rp : Rp K (upd F a o) (.ref a) d := by
    cases d with
    | list ds => obtain ⟨xs, e1, e2⟩ := h3; rw [ho] at e1; cases e1; exact .lst (.inl (.inl upd_same)) (e2.le (.of sf))
    | dict ds => obtain ⟨xs, e1, e2⟩ := h3; rw [ho] at e1; cases e1; exact .dct (.inl upd_same) (e2.le (.of sf))
    | _ => exact h3.elim
  have hil : i < ρ.length := (List.getElem?_eq_some_iff.mp hi).1
  have back : ∀ (j : Nat) (d' : D) (b : Bool), (List.set ρ i (Slot.val d))[j]? = some (Slot.own d' b) → j ≠ i ∧ ρ[j]? = some (Slot.own d' b) := fun j d' b e => by
    by_cases hj : j = i
    · subst hj; rw [List.getElem?_set_self hil] at e; cases e
    · rw [List.getElem?_set_ne (Ne.symm hj)] at e; exact ⟨hj, e⟩
  refine ⟨upd F a o, sf, ⟨by rw [List.length_set]; exact r.len, fun j d' e => ?_, fun j d' b e => ?_, fun j k d1 b1 d2 b2 x e1 e2 s1 s2 => r.apart j k d1 b1 d2 b2 x (back _ _ _ e1).2 (back _ _ _ e2).2 s1 s2, fun b u e => ?_, fun b u e => ?_, fun j x e => ?_⟩, rp⟩
  · by_cases hj : j = i
    · subst hj; rw [List.getElem?_set_self hil] at e; cases e; exact ⟨_, hv, rp⟩
    · rw [List.getElem?_set_ne (Ne.symm hj)] at e
      obtain ⟨v, q1, q2⟩ := r.val j d' e
      exact ⟨v, q1, q2.le (.of sf)⟩
  · obtain ⟨nj, e⟩ := back _ _ _ e
    obtain ⟨a', q1, q2, q3, q4⟩ := r.own j d' b e
    have ne : a' ≠ a := fun z => nj (r.apart j i d' b d false a e hi (by rw [q1, z]) hv)
    exact ⟨a', q1, by rw [upd_ne ne]; exact q2, q3, q4.le (.of sf)⟩
  · by_cases hb : b = a
    · subst hb; rw [upd_same] at e; cases e; exact ho
    · rw [upd_ne hb] at e; exact r.fz _ _ e
  · obtain ⟨q1, q2⟩ := r.fr b u e
    have ne : b ≠ a := fun z => by rw [z, h2] at e; cases e
    rw [upd_ne ne]
    exact ⟨q1, q2⟩
  · obtain ⟨q1, d1, q2⟩ := r.bor j x e
    refine ⟨q1, d1, ?_⟩
    have nj : j ≠ i := fun z => by subst z; rw [hi] at q2; cases q2
    rw [List.getElem?_set_ne (Ne.symm nj)]; exact q2
/-- a kept result -/
theorem Rel.esc (r : Rel K B ρ F Fr H σ) {v : V} {x : RV} {d : D} {ρ' : Env} (h : RVRel K ρ F Fr H σ v x) (e : Pi.esc ρ x = some (d, ρ')) : ∃ F', Same F F' ∧ Rel K B ρ' F' Fr H σ ∧ Rp K F' v d := by
  cases x with
  | val d0 => cases e; exact ⟨F, .refl F, r, h⟩
  | own d0 => cases e; exact r.fixOwn h
  | slot i =>
    simp only [Pi.esc] at e
    have h : σ[i]? = some (some v) := h
    split at e
    · rename_i d0 hd
      cases e
      obtain ⟨v', q1, q2⟩ := r.val _ _ hd
      rw [h] at q1; cases q1
      exact ⟨F, .refl F, r, q2⟩
    · rename_i d0 hd
      cases e
      exact r.fixSlot hd h
    · cases e
/-- what an operation reads -/
inductive RpT (K : PySem.W.Frag) (F H : Hp) (v : V) (d : D) : Prop
  | fix : Rp K F v d → RpT K F H v d
  | own (a : Addr) : v = .ref a → OwnAt K F H a d → RpT K F H v d
theorem Rel.rd (r : Rel K B ρ F Fr H σ) {v : V} {x : RV} {d : D} (h : RVRel K ρ F Fr H σ v x) (e : Pi.rd ρ x = some d) : RpT K F H v d := by
  cases x with
  | val d0 => cases e; exact .fix h
  | own d0 => cases e; obtain ⟨a, rfl, _, _, h3, _⟩ := h; exact .own a rfl h3
  | slot i =>
    simp only [Pi.rd] at e
    have h : σ[i]? = some (some v) := h
    split at e
    · rename_i d0 hd
      cases e
      obtain ⟨v', q1, q2⟩ := r.val _ _ hd
      rw [h] at q1; cases q1
      exact .fix q2
    · rename_i d0 b hd
      cases e
      obtain ⟨a, q1, _, _, q4⟩ := r.own _ _ _ hd
      rw [h] at q1; cases q1
      exact .own a rfl q4
    · cases e
/-- a result read further on -/
def RV.fz : RV → RV
  | .own d => .val d
  | x => x
theorem Rel.fzR (r : Rel K B ρ F Fr H σ) {v : V} {x : RV} (h : RVRel K ρ F Fr H σ v x) : ∃ F', Same F F' ∧ Rel K B ρ F' Fr H σ ∧ RVRel K ρ F' Fr H σ v x.fz := by
  cases x with
  | val d0 => exact ⟨F, .refl F, r, h⟩
  | own d0 => exact r.fixOwn h
  | slot i => exact ⟨F, .refl F, r, h⟩
theorem rd_fz (ρ : Env) (x : RV) : Pi.rd ρ x.fz = Pi.rd ρ x := by cases x <;> rfl
theorem RVRel.mv {ρ ρ' : Env} {F F' Fr Fr' H H' : Hp} {v : V} {x : RV} (s : Same F F') (h : RVRel K ρ F Fr H σ v x.fz) : RVRel K ρ' F' Fr' H' σ v x.fz := by
  cases x with
  | val d0 => exact Rp.le (.of s) h
  | own d0 => exact Rp.le (.of s) h
  | slot i => exact h
end
section
variable {K : PySem.W.Frag} {F H : Hp} {v : V}
/-- what the shapes say -/
theorem RpT.int {i : Int} (h : RpT K F H v (.int i)) : v = .int i := by
  rcases h with h | ⟨a, _, h⟩
  · cases h; rfl
  · exact h.elim
theorem RpT.bool {i : Bool} (h : RpT K F H v (.bool i)) : v = .bl i := by
  rcases h with h | ⟨a, _, h⟩
  · cases h; rfl
  · exact h.elim
theorem RpT.str {i : Str} (h : RpT K F H v (.str i)) : v = .str i := by
  rcases h with h | ⟨a, _, h⟩
  · cases h; rfl
  · exact h.elim
theorem RpT.none (h : RpT K F H v .none) : v = .non := by
  rcases h with h | ⟨a, _, h⟩
  · cases h; rfl
  · exact h.elim
theorem RpT.tup {ds : List D} (s : Same F H) (h : RpT K F H v (.tuple ds)) : ∃ a xs, v = .ref a ∧ SqT K H a xs ∧ RpAll K F xs ds := by
  rcases h with h | ⟨a, _, h⟩
  · cases h with
    | tup h1 h2 => exact ⟨_, _, rfl, (Le.of s).t h1, h2⟩
  · exact h.elim
theorem RpT.lst {ds : List D} (s : Same F H) (h : RpT K F H v (.list ds)) : ∃ a xs, v = .ref a ∧ SqL K H a xs ∧ RpAll K F xs ds := by
  rcases h with h | ⟨a, e, h⟩
  · cases h with
    | lst h1 h2 => exact ⟨_, _, rfl, (Le.of s).l h1, h2⟩
  · obtain ⟨xs, h1, h2⟩ := h
    exact ⟨a, xs, e, .inl (.inl h1), h2⟩
theorem RpT.dct {ds : List (D × D)} (s : Same F H) (h : RpT K F H v (.dict ds)) : ∃ a ks, v = .ref a ∧ Rd H a (.dK ks) ∧ RpKV K F ks ds := by
  rcases h with h | ⟨a, e, h⟩
  · cases h with
    | dct h1 h2 => exact ⟨_, _, rfl, rd_same s h1, h2⟩
  · obtain ⟨xs, h1, h2⟩ := h
    exact ⟨a, xs, e, .inl h1, h2⟩
end
/-! ### names, by the kernel -/
def visB (sc : Scope) (x : Str) : Bool := match sc.names.lookup x with
  | some .local => true
  | some .cell => true
  | some .free => true
  | _ => false
def locB (sc : Scope) (x : Str) : Bool := match sc.names.lookup x with
  | some .local => true
  | some .cell => true
  | _ => false
theorem vis_k {sc : Scope} {x : Str} (h : visB sc x = true := by kernel_rfl) : Vis sc x := by
  unfold visB at h
  unfold Vis
  split at h
  · rename_i e; exact .inl e
  · rename_i e; exact .inr (.inl e)
  · rename_i e; exact .inr (.inr e)
  · cases h
theorem loc_k {sc : Scope} {x : Str} (h : locB sc x = true := by kernel_rfl) : L2.Loc sc x := by
  unfold locB at h
  unfold L2.Loc
  split at h
  · rename_i e; exact .inl e
  · rename_i e; exact .inr e
  · cases h
theorem gl_k {X : Cx} {x : Str} (h : X.env.kindOf x = some .globalImplicit := by kernel_rfl) : Gl X x := h
end Pi
set_option maxRecDepth 100000
set_option maxHeartbeats 1000000
namespace Pi
open PySem PySem.Spec PyProof.Rows L2

/-! ### the pure readings -/
abbrev M := Env → Option (Res RV)
def Res.bind {α β : Type} (x : Option (Res α)) (f : α → Env → Option (Res β)) : Option (Res β) :=
  match x with
  | none => none
  | some (.ex c ρ) => some (.ex c ρ)
  | some (.ok a ρ) => f a ρ
/-- what a statement ends in -/
inductive O where
  | nx (ρ : Env)
  | rt (r : RV) (ρ : Env)
  | bk (ρ : Env)
  | ct (ρ : Env)
  | ex (c : Nat) (ρ : Env)
abbrev MS := Env → Option O
/-- what a call ends in: its value, what its arguments hold now -/
inductive Out where
  | rt (r : RV) (outs : Env)
  | ex (c : Nat) (outs : Env)

/-! ### where code runs -/
structure Zx where
  X : Cx
  W : WX
  B : Nat → Option Addr
  cls : Nat → Value
  k : Nat
structure Zx.Ok (Z : Zx) : Prop where
  calm : Z.X.calm = true
  nd : Z.X.N.Nodup
  room : Room Z.k Z.X.A
  gd : Z.X.A.guards = some []
  tk : Takes Z.X Z.W
  pass : PassesOwn (model Z.X.prog Z.X.w) Z.X.A Z.X.env Z.X.xe
theorem Zx.Ok.hu {Z : Zx} (z : Z.Ok) : Z.X.A.units + 1 < cLine := hu_of z.room

/-- the canonical readings -/
def Ce (X : Cx) (e : Expr) : TE := fun σ H Q => ∀ pins s, Inv X pins σ H s → wpAny (model X.prog X.w) X.A (eval e X.env) (EP X pins σ Q) X.xe s
def Ct (X : Cx) (e : Expr) : TT := fun σ H Q => ∀ pins s, Inv X pins σ H s → wpAny (model X.prog X.w) X.A (PySem.isTrue e X.env (eval e X.env)) (TP X pins σ Q) X.xe s
def Cw (X : Cx) (e : Expr) : TT := fun σ H Q => ∀ (whole : Sem Value) pins s, Inv X pins σ H s → wpAny (model X.prog X.w) X.A (PySem.isTrue e X.env whole) (TP X pins σ Q) X.xe s
def Ca (X : Cx) (es : List Expr) : TA := fun σ H Q => ∀ (pos : Pos) pins s, Inv X pins σ H s → wpAny (model X.prog X.w) X.A (spliced (backTo pos (starEach es X.env))) (AP X pins σ Q) X.xe s
def Cs (X : Cx) (st : Stmt) : TS := fun D σ H => ∀ pins s, Inv X pins σ H s → wpAny (model X.prog X.w) X.A (exec st X.env) (SP X pins D) X.xe s
def Css (X : Cx) (st : List Stmt) : TS := fun D σ H => ∀ pins s, Inv X pins σ H s → wpAny (model X.prog X.w) X.A (execs st X.env) (SP X pins D) X.xe s
def Cg (X : Cx) (tg : Expr) : TG := fun v σ H Q => ∀ pins s u, Inv X pins σ H s → RelV v u → wpAny (model X.prog X.w) X.A (assign tg X.env u) (fun _ s' => ∃ σ' H', Inv X pins σ' H' s' ∧ Q σ' H') X.xe s
def Ci (X : Cx) (tg iter : Expr) : TI := fun σ H R => ∀ pins s, Inv X pins σ H s → wpAny (model X.prog X.w) X.A (eval iter X.env) (fun v s1 => wpAny (model X.prog X.w) X.A (pyIter v) (PIE X pins σ tg R) X.xe s1) X.xe s
section
variable {X : Cx}
theorem pe_C {e : Expr} : PE X e (Ce X e) := ⟨fun pins s σ H Q I h => h pins s I⟩
theorem pt_C {e : Expr} : PT X e (Ct X e) := ⟨fun pins s σ H Q I h => h pins s I⟩
theorem pw_C {e : Expr} : PW X e (Cw X e) := ⟨fun wh pins s σ H Q I h => h wh pins s I⟩
theorem pa_C {es : List Expr} : PA X es (Ca X es) := ⟨fun pos pins s σ H Q I h => h pos pins s I⟩
theorem ps_C {st : Stmt} : PS X st (Cs X st) := ⟨fun pins s σ H D I h => h pins s I⟩
theorem pss_C {st : List Stmt} : PSs X st (Css X st) := ⟨fun pins s σ H D I h => h pins s I⟩
theorem pg_C {tg : Expr} : PG X tg (Cg X tg) := ⟨fun pins s σ H v u Q I r h => h pins s u I r⟩
theorem pi_C {tg iter : Expr} : PI X tg iter (Ci X tg iter) := ⟨fun pins s σ H R I h => h pins s I⟩
theorem Ce.of {e : Expr} {t : TE} (h : PE X e t) {σ : L2.St} {H : Hp} {Q : VK} (q : t σ H Q) : Ce X e σ H Q := fun pins s I => h.run pins s σ H Q I q
theorem Ct.of {e : Expr} {t : TT} (h : PT X e t) {σ : L2.St} {H : Hp} {Q : Bool → Hp → Prop} (q : t σ H Q) : Ct X e σ H Q := fun pins s I => h.run pins s σ H Q I q
theorem Cw.of {e : Expr} {t : TT} (h : PW X e t) {σ : L2.St} {H : Hp} {Q : Bool → Hp → Prop} (q : t σ H Q) : Cw X e σ H Q := fun wh pins s I => h.run wh pins s σ H Q I q
theorem Ca.of {e : List Expr} {t : TA} (h : PA X e t) {σ : L2.St} {H : Hp} {Q : List V → Hp → Prop} (q : t σ H Q) : Ca X e σ H Q := fun pos pins s I => h.run pos pins s σ H Q I q
theorem Cs.of {e : Stmt} {t : TS} (h : PS X e t) {σ : L2.St} {H : Hp} {D : Ends} (q : t D σ H) : Cs X e D σ H := fun pins s I => h.run pins s σ H D I q
theorem Css.of {e : List Stmt} {t : TS} (h : PSs X e t) {σ : L2.St} {H : Hp} {D : Ends} (q : t D σ H) : Css X e D σ H := fun pins s I => h.run pins s σ H D I q
theorem Cg.of {e : Expr} {t : TG} (h : PG X e t) {v : V} {σ : L2.St} {H : Hp} {Q : L2.St → Hp → Prop} (q : t v σ H Q) : Cg X e v σ H Q := fun pins s u I r => h.run pins s σ H v u Q I r q
theorem Ci.of {tg e : Expr} {t : TI} (h : PI X tg e t) {σ : L2.St} {H : Hp} {R : It → Hp → Prop} (q : t σ H R) : Ci X tg e σ H R := fun pins s I => h.run pins s σ H R I q
theorem Ce.mono {e : Expr} {σ : L2.St} {H : Hp} {Q Q' : VK} (h : Ce X e σ H Q) (q : ∀ v H', Q v H' → Q' v H') : Ce X e σ H Q' := fun pins s I => thn (h pins s I) fun u s' ⟨v, H', I', r, z⟩ => ⟨v, H', I', r, q v H' z⟩
end

/-! ### what is shown of each piece -/
def PostE (Z : Zx) (σ : L2.St) (F Fr : Hp) (Q : VK) : Option (Res RV) → Prop
  | none => False
  | some (.ok r ρ') => ∀ F' H' v, Same F F' → Rel Z.X.K Z.B ρ' F' Fr H' σ → RVRel Z.X.K ρ' F' Fr H' σ v r → Q v H'
  | some (.ex c ρ') => ∀ F' H', Same F F' → Rel Z.X.K Z.B ρ' F' Fr H' σ → Z.W (Z.cls c) none σ H'
structure SE (Z : Zx) (e : Expr) (m : M) : Prop where
  run : ∀ ρ σ F Fr H Q, Rel Z.X.K Z.B ρ F Fr H σ → PostE Z σ F Fr Q (m ρ) → Ce Z.X e σ H Q
instance {Z : Zx} {e : Expr} {m : M} : CoeFun (SE Z e m) fun _ => (∀ ρ σ F Fr H Q, Rel Z.X.K Z.B ρ F Fr H σ → PostE Z σ F Fr Q (m ρ) → Ce Z.X e σ H Q) := ⟨SE.run⟩

/-- the truth of data -/
def truth : D → Bool
  | .none => false
  | .bool b => b
  | .int i => i != 0
  | .str x => (x.length : Int) != 0
  | .list xs => !xs.isEmpty
  | .tuple xs => !xs.isEmpty
  | .dict xs => !xs.isEmpty
def PostT (Z : Zx) (σ : L2.St) (F Fr : Hp) (Q : Bool → Hp → Prop) : Option (Res Bool) → Prop
  | none => False
  | some (.ok r ρ') => ∀ F' H', Same F F' → Rel Z.X.K Z.B ρ' F' Fr H' σ → Q r H'
  | some (.ex c ρ') => ∀ F' H', Same F F' → Rel Z.X.K Z.B ρ' F' Fr H' σ → Z.W (Z.cls c) none σ H'
abbrev MT := Env → Option (Res Bool)
structure ST (Z : Zx) (e : Expr) (m : MT) : Prop where
  run : ∀ ρ σ F Fr H Q, Rel Z.X.K Z.B ρ F Fr H σ → PostT Z σ F Fr Q (m ρ) → Ct Z.X e σ H Q
instance {Z : Zx} {e : Expr} {m : MT} : CoeFun (ST Z e m) fun _ => (∀ ρ σ F Fr H Q, Rel Z.X.K Z.B ρ F Fr H σ → PostT Z σ F Fr Q (m ρ) → Ct Z.X e σ H Q) := ⟨ST.run⟩
structure SW (Z : Zx) (e : Expr) (m : MT) : Prop where
  run : ∀ ρ σ F Fr H Q, Rel Z.X.K Z.B ρ F Fr H σ → PostT Z σ F Fr Q (m ρ) → Cw Z.X e σ H Q
instance {Z : Zx} {e : Expr} {m : MT} : CoeFun (SW Z e m) fun _ => (∀ ρ σ F Fr H Q, Rel Z.X.K Z.B ρ F Fr H σ → PostT Z σ F Fr Q (m ρ) → Cw Z.X e σ H Q) := ⟨SW.run⟩

/-- arguments: values, or a caller's slot -/
inductive AV where
  | val (d : D)
  | ref (i : Nat)
def AVRel (K : PySem.W.Frag) (F : Hp) (σ : L2.St) : V → AV → Prop
  | v, .val d => Rp K F v d
  | v, .ref i => σ[i]? = some (some v)
abbrev MA := Env → Option (Res (List AV))
def PostA (Z : Zx) (σ : L2.St) (F Fr : Hp) (Q : List V → Hp → Prop) : Option (Res (List AV)) → Prop
  | none => False
  | some (.ok r ρ') => ∀ F' H' vs, Same F F' → Rel Z.X.K Z.B ρ' F' Fr H' σ → Paired (AVRel Z.X.K F' σ) vs r → Q vs H'
  | some (.ex c ρ') => ∀ F' H', Same F F' → Rel Z.X.K Z.B ρ' F' Fr H' σ → Z.W (Z.cls c) none σ H'
structure SA (Z : Zx) (es : List Expr) (m : MA) : Prop where
  run : ∀ ρ σ F Fr H Q, Rel Z.X.K Z.B ρ F Fr H σ → PostA Z σ F Fr Q (m ρ) → Ca Z.X es σ H Q
instance {Z : Zx} {es : List Expr} {m : MA} : CoeFun (SA Z es m) fun _ => (∀ ρ σ F Fr H Q, Rel Z.X.K Z.B ρ F Fr H σ → PostA Z σ F Fr Q (m ρ) → Ca Z.X es σ H Q) := ⟨SA.run⟩

def PostS (Z : Zx) (F Fr : Hp) (D : Ends) : Option O → Prop
  | none => False
  | some (.nx ρ') => ∀ F' H' σ', Same F F' → Rel Z.X.K Z.B ρ' F' Fr H' σ' → D.nx σ' H'
  | some (.bk ρ') => ∀ F' H' σ', Same F F' → Rel Z.X.K Z.B ρ' F' Fr H' σ' → D.bk σ' H'
  | some (.ct ρ') => ∀ F' H' σ', Same F F' → Rel Z.X.K Z.B ρ' F' Fr H' σ' → D.ct σ' H'
  | some (.rt r ρ') => ∀ F' H' σ' v, Same F F' → Rel Z.X.K Z.B ρ' F' Fr H' σ' → RVRel Z.X.K ρ' F' Fr H' σ' v r → D.rt v H'
  | some (.ex c ρ') => ∀ F' H' σ', Same F F' → Rel Z.X.K Z.B ρ' F' Fr H' σ' → Z.W (Z.cls c) none σ' H'
structure SS (Z : Zx) (st : Stmt) (m : MS) : Prop where
  run : ∀ ρ σ F Fr H D, Rel Z.X.K Z.B ρ F Fr H σ → PostS Z F Fr D (m ρ) → Cs Z.X st D σ H
instance {Z : Zx} {st : Stmt} {m : MS} : CoeFun (SS Z st m) fun _ => (∀ ρ σ F Fr H D, Rel Z.X.K Z.B ρ F Fr H σ → PostS Z F Fr D (m ρ) → Cs Z.X st D σ H) := ⟨SS.run⟩
structure SSs (Z : Zx) (st : List Stmt) (m : MS) : Prop where
  run : ∀ ρ σ F Fr H D, Rel Z.X.K Z.B ρ F Fr H σ → PostS Z F Fr D (m ρ) → Css Z.X st D σ H
instance {Z : Zx} {st : List Stmt} {m : MS} : CoeFun (SSs Z st m) fun _ => (∀ ρ σ F Fr H D, Rel Z.X.K Z.B ρ F Fr H σ → PostS Z F Fr D (m ρ) → Css Z.X st D σ H) := ⟨SSs.run⟩

section
variable {Z : Zx} {σ : L2.St} {F F1 Fr : Hp} {Q : VK}
theorem PostE.le {o : Option (Res RV)} (s : Same F F1) (h : PostE Z σ F Fr Q o) : PostE Z σ F1 Fr Q o := by
  cases o with
  | none => exact h
  | some r => cases r with
    | ok a ρ => exact fun F' H' v s' => h F' H' v (s.trans s')
    | ex c ρ => exact fun F' H' s' => h F' H' (s.trans s')
theorem PostT.le {Q : Bool → Hp → Prop} {o : Option (Res Bool)} (s : Same F F1) (h : PostT Z σ F Fr Q o) : PostT Z σ F1 Fr Q o := by
  cases o with
  | none => exact h
  | some r => cases r with
    | ok a ρ => exact fun F' H' s' => h F' H' (s.trans s')
    | ex c ρ => exact fun F' H' s' => h F' H' (s.trans s')
theorem PostA.le {Q : List V → Hp → Prop} {o : Option (Res (List AV))} (s : Same F F1) (h : PostA Z σ F Fr Q o) : PostA Z σ F1 Fr Q o := by
  cases o with
  | none => exact h
  | some r => cases r with
    | ok a ρ => exact fun F' H' vs s' => h F' H' vs (s.trans s')
    | ex c ρ => exact fun F' H' s' => h F' H' (s.trans s')
theorem PostS.le {D : Ends} {o : Option O} (s : Same F F1) (h : PostS Z F Fr D o) : PostS Z F1 Fr D o := by
  cases o with
  | none => exact h
  | some r => cases r with
    | nx ρ => exact fun F' H' σ' s' => h F' H' σ' (s.trans s')
    | bk ρ => exact fun F' H' σ' s' => h F' H' σ' (s.trans s')
    | ct ρ => exact fun F' H' σ' s' => h F' H' σ' (s.trans s')
    | ex c ρ => exact fun F' H' σ' s' => h F' H' σ' (s.trans s')
    | rt r ρ => exact fun F' H' σ' v s' => h F' H' σ' v (s.trans s')
end

/-! ### one piece and then another -/
section
variable {Z : Zx} {e : Expr} {m : M}
/-- the use of a piece whose result is read (a fresh changeable object is fixed) -/
theorem SE.use (h : SE Z e m) {ρ : Env} {σ : L2.St} {F Fr H : Hp} {Q : VK} (r : Rel Z.X.K Z.B ρ F Fr H σ)
    (ok : ∀ x ρ', m ρ = some (.ok x ρ') → ∀ F' H' v, Same F F' → Rel Z.X.K Z.B ρ' F' Fr H' σ → RVRel Z.X.K ρ' F' Fr H' σ v x.fz → Q v H')
    (ex : ∀ c ρ', m ρ = some (.ex c ρ') → ∀ F' H', Same F F' → Rel Z.X.K Z.B ρ' F' Fr H' σ → Z.W (Z.cls c) none σ H')
    (no : m ρ ≠ none) : Ce Z.X e σ H Q := by
  refine h ρ σ F Fr H Q r ?_
  cases e1 : m ρ with
  | none => exact absurd e1 no
  | some o => cases o with
    | ex c ρ' => exact ex c ρ' e1
    | ok x ρ' =>
      intro F' H' v s r' rv
      obtain ⟨F2, s2, r2, q2⟩ := r'.fzR rv
      exact ok x ρ' e1 F2 H' v (s.trans s2) r2 q2
end

/-! ### expressions: names and constants -/
def mVar (i : Nat) : M := fun ρ => match ρ[i]? with
  | some (.val d) => some (.ok (.val d) ρ)
  | some (.own _ _) => some (.ok (.slot i) ρ)
  | _ => none
def mC (d : D) : M := fun ρ => some (.ok (.val d) ρ)
section
variable {Z : Zx} {pos : Pos}
theorem s_var (i : Nat) {x : Str} (hN : Z.X.N[i]? = some x := by kernel_rfl) (hv : Vis Z.X.env.scope x := by exact vis_k) (hd : (x == ("__debug__" : Str)) = false := by kernel_rfl)
    (hcd : (x == ("__classdict__" : Str)) = false := by kernel_rfl) : SE Z (.Name x pos) (mVar i) := by
  refine .mk ?_
  intro ρ σ F Fr H Q r h
  refine Ce.of (pe_var hN hv hd hcd) ?_
  simp only [mVar] at h
  split at h
  · rename_i d hi
    obtain ⟨v, h1, h2⟩ := r.val i d hi
    exact ⟨v, h1, h F H v (.refl F) r h2⟩
  · rename_i d b hi
    obtain ⟨a, h1, _⟩ := r.own i d b hi
    exact ⟨_, h1, h F H _ (.refl F) r h1⟩
  · exact h.elim
theorem s_int {i : Int} {j : Nat} : SE Z (.Constant (.int i) j pos) (mC (.int i)) := .mk fun ρ σ F Fr H Q r h => Ce.of pe_int (h F H (.int i) (.refl F) r (.int i))
theorem s_bl {i : Bool} {j : Nat} : SE Z (.Constant (.bool i) j pos) (mC (.bool i)) := .mk fun ρ σ F Fr H Q r h => Ce.of pe_bl (h F H (.bl i) (.refl F) r (.bl i))
theorem s_non {j : Nat} : SE Z (.Constant .none j pos) (mC .none) := .mk fun ρ σ F Fr H Q r h => Ce.of pe_non (h F H .non (.refl F) r .non)
theorem s_str {i : Str} {j : Nat} : SE Z (.Constant (.str i) j pos) (mC (.str i)) := .mk fun ρ σ F Fr H Q r h => Ce.of pe_str (h F H (.str i) (.refl F) r (.str i))
/-- a constant of the module -/
theorem s_glob {x : Str} {v : V} {u : Value} {d : D} (hg : Gl Z.X x) (hm : Z.X.mg x = some u) (r : RelV v u) (rp : ∀ F, Rp Z.X.K F v d) (hd : (x == ("__debug__" : Str)) = false := by kernel_rfl) : SE Z (.Name x pos) (mC d) :=
  .mk fun ρ σ F Fr H Q rr h => Ce.of (pe_glob hg hm r hd) (h F H v (.refl F) rr (rp F))
end

/-! ### two values by an operation -/
def mOp (f : D → D → Option RV) (a b : M) : M := fun ρ => Res.bind (a ρ) fun x ρ1 => Res.bind (b ρ1) fun y ρ2 =>
  match rd ρ2 x, rd ρ2 y with
  | some p, some q => (f p q).map fun r => .ok r ρ2
  | _, _ => none
/-- what an operation on values must do -/
def OpS (Z : Zx) (r : R2) (f : D → D → Option RV) : Prop := ∀ ρ σ F Fr H x y p q z (Q : VK), Rel Z.X.K Z.B ρ F Fr H σ → RpT Z.X.K F H x p → RpT Z.X.K F H y q → f p q = some z →
  (∀ F' H' v, Same F F' → Rel Z.X.K Z.B ρ F' Fr H' σ → RVRel Z.X.K ρ F' Fr H' σ v z → Q v H') → r x y H Q
section
variable {Z : Zx} {a b : Expr} {ma mb : M} {pos : Pos} {r : R2} {f : D → D → Option RV}
theorem op_run (ha : SE Z a ma) (hb : SE Z b mb) (o : OpS Z r f) {ρ : Env} {σ : L2.St} {F Fr H : Hp} {Q : VK} (rr : Rel Z.X.K Z.B ρ F Fr H σ) (h : PostE Z σ F Fr Q (mOp f ma mb ρ)) :
    tOp r (Ce Z.X a) (Ce Z.X b) σ H Q := by
  simp only [mOp] at h
  refine ha.use rr (fun x ρ1 e1 F1 H1 v1 s1 r1 q1 => ?_) (fun c ρ1 e1 F1 H1 s1 r1 => ?_) (fun e1 => ?_)
  · rw [e1] at h
    simp only [Res.bind] at h
    refine hb.use r1 (fun y ρ2 e2 F2 H2 v2 s2 r2 q2 => ?_) (fun c ρ2 e2 F2 H2 s2 r2 => ?_) (fun e2 => ?_)
    · rw [e2] at h
      simp only at h
      split at h
      · rename_i p q ep eq
        cases ef : f p q with
        | none => rw [ef] at h; exact h.elim
        | some z =>
          rw [ef] at h
          refine o ρ2 σ F2 Fr H2 v1 v2 p q z Q r2 ?_ ?_ ef fun F' H' v s' r' q' => h F' H' v ((s1.trans s2).trans s') r' q'
          · exact r2.rd (x := x.fz) (RVRel.mv s2 q1) (by rw [rd_fz]; exact ep)
          · exact r2.rd (x := y.fz) q2 (by rw [rd_fz]; exact eq)
      · exact h.elim
    · rw [e2] at h
      exact h F2 H2 (s1.trans s2) r2
    · rw [e2] at h; exact h
  · rw [e1] at h
    exact h F1 H1 s1 r1
  · rw [e1] at h; exact h
theorem s_op {op : Operator} (ho : OpR Z.X (binaryOp op) r) (o : OpS Z r f) (ha : SE Z a ma) (hb : SE Z b mb) : SE Z (.BinOp a op b pos) (mOp f ma mb) :=
  .mk fun ρ σ F Fr H Q rr h => Ce.of (pe_op ho pe_C pe_C) (op_run ha hb o rr h)
theorem s_cmp {op : CmpOp} (ho : OpR Z.X (compareOp op) r) (o : OpS Z r f) (ha : SE Z a ma) (hb : SE Z b mb) (hm : behindInMarks op b = false := by first | exact nomark _ | rfl) : SE Z (.Compare a [op] [b] pos) (mOp f ma mb) :=
  .mk fun ρ σ F Fr H Q rr h => Ce.of (pe_cmpR ho pe_C pe_C hm) (op_run ha hb o rr h)
theorem s_ix (ho : IxR Z.X r) (o : OpS Z r f) (ha : SE Z a ma) (hb : SE Z b mb) (hp : PlainIx b := by intro _ _; kernel_rfl) : SE Z (.Subscript a b pos) (mOp f ma mb) :=
  .mk fun ρ σ F Fr H Q rr h => Ce.of (pe_ix ho pe_C pe_C hp) (op_run ha hb o rr h)
end
end Pi
set_option maxRecDepth 100000
set_option maxHeartbeats 1000000
namespace Pi
open PySem PySem.Spec PyProof.Rows L2

/-! ### operations on ints -/
def fI (c : Int → Int → Bool) (g : Int → Int → D) : D → D → Option RV
  | .int i, .int j => if c i j then some (.val (g i j)) else none
  | _, _ => none
section
variable {Z : Zx}
theorem RVRel.scal {K : PySem.W.Frag} {ρ : Env} {F Fr H : Hp} {σ : L2.St} {v : V} {d : D} (h : Rp K F v d) : RVRel K ρ F Fr H σ v (.val d) := h
theorem os_I {C : Int → Int → Prop} {c : Int → Int → Bool} {g : Int → Int → V} {gd : Int → Int → D} (hc : ∀ i j, c i j = true → C i j) (hg : ∀ F i j, Rp Z.X.K F (g i j) (gd i j)) : OpS Z (rI C g) (fI c gd) := by
  intro ρ σ F Fr H x y p q z Q r hx hy e k
  cases p with
  | int i =>
    cases q with
    | int j =>
      simp only [fI] at e
      split at e
      · rename_i hh
        cases e
        exact ⟨i, j, hx.int, hy.int, hc _ _ hh, k F H _ (.refl F) r (hg F i j)⟩
      · cases e
    | _ => cases e
  | _ => cases e
theorem os_I0 {g : Int → Int → V} {gd : Int → Int → D} (hg : ∀ F i j, Rp Z.X.K F (g i j) (gd i j)) : OpS Z (rI0 g) (fI (fun _ _ => true) gd) := by
  intro ρ σ F Fr H x y p q z Q r hx hy e k
  cases p with
  | int i =>
    cases q with
    | int j =>
      simp only [fI] at e
      cases e
      exact ⟨i, j, hx.int, hy.int, k F H _ (.refl F) r (hg F i j)⟩
    | _ => cases e
  | _ => cases e
/-- one of two rules -/
def fOr (f g : D → D → Option RV) : D → D → Option RV := fun x y => (f x y).or (g x y)
theorem os_or {r r' : R2} {f f' : D → D → Option RV} (h : OpS Z r f) (h' : OpS Z r' f') : OpS Z (fun x y H Q => r x y H Q ∨ r' x y H Q) (fOr f f') := by
  intro ρ σ F Fr H x y p q z Q rr hx hy e k
  unfold fOr at e
  cases e1 : f p q with
  | some z1 =>
    rw [e1] at e
    cases e
    exact .inl (h ρ σ F Fr H x y p q _ Q rr hx hy e1 k)
  | none =>
    rw [e1] at e
    exact .inr (h' ρ σ F Fr H x y p q z Q rr hx hy e k)
end
def big : Nat := 1000000
theorem big_line : big ≤ sizeLine := by decide
theorem big_lt : big < sizeLine := by decide

/-! ### + -/
def fCatT : D → D → Option RV
  | .tuple xs, .tuple ys => if xs.length + ys.length ≤ big then some (.val (.tuple (xs ++ ys))) else none
  | _, _ => none
def fCatL : D → D → Option RV
  | .list xs, .list ys => if xs.length + ys.length ≤ big then some (.own (.list (xs ++ ys))) else none
  | _, _ => none
def fCatS : D → D → Option RV
  | .str x, .str y => if x.length + y.length ≤ big then some (.val (.str (x ++ y))) else none
  | _, _ => none
def rCatG (K : PySem.W.Frag) : R2 := fun x y H Q => ∃ l b xs zs, x = .ref l ∧ y = .ref b ∧ SqL K H l xs ∧ SqL K H b zs ∧ xs.length + zs.length ≤ sizeLine ∧ ∀ p, H p = none → Q (.ref p) (upd H p (.lst (xs ++ zs)))
theorem op_catG {X : Cx} : OpR X (binaryOp .Add) (rCatG X.K) := by
  intro pins s σ H x y v u Q I rx ry h
  obtain ⟨l, b, xs, zs, rfl, rfl, hH, hB, hz, q⟩ := h
  cases rx
  cases ry
  obtain ⟨its, r, ⟨⟨cls, dd, data, sl⟩, n, ho, hc, hd, he⟩, hs⟩ := I.list hH
  obtain ⟨its2, r2, ⟨⟨cls2, dd2, data2, sl2⟩, n2, ho2, hc2, hd2, he2⟩, hs2⟩ := I.list hB
  simp only at hc hd he hc2 hd2 he2
  subst hc hd he hc2 hd2 he2
  have l1 := r.length
  have l2 := r2.length
  refine concat_meets ⟨_, ho, rfl⟩ ⟨_, ho2, rfl⟩ noFill_list_add seq_list_add PySem.F.slot_list_add PySem.F.entry_list_add (PySem.F.args_list_add_2 _ _)
    (list_addW l b its.toArray its2.toArray n n2 none none sl sl2 (by simp only [List.size_toArray]; omega)) ⟨ho, ho2, ?_⟩
  have e : its.toArray ++ its2.toArray = (its ++ its2).toArray := by simp
  rw [e]
  exact ⟨.ref _, _, I.lnew (t' := s.toks) (r.append r2) (by rw [List.length_append]; omega), rfl, q _ I.fresh⟩
section
variable {Z : Zx}
theorem os_catT : OpS Z (rCatA Z.X.K) fCatT := by
  intro ρ σ F Fr H x y p q z Q r hx hy e k
  cases p with
  | tuple ds =>
    cases q with
    | tuple es =>
      simp only [fCatT] at e
      split at e
      · rename_i hl
        cases e
        obtain ⟨a, xs, rfl, h1, h2⟩ := hx.tup r.fz
        obtain ⟨b, ys, rfl, h3, h4⟩ := hy.tup r.fz
        have l1 := h2.length
        have l2 := h4.length
        refine ⟨a, b, xs, ys, rfl, rfl, h1, h3, ?_, fun e => ?_, fun e1 e2 => ?_, fun e1 e2 p hp => ?_⟩
        · rw [l1, l2]; exact Nat.le_trans hl big_line
        · subst e
          cases h2
          refine k F H _ (.refl F) r ?_
          rcases hy with hy | ⟨_, _, hy⟩
          · exact hy
          · exact hy.elim
        · subst e2
          cases h4
          refine k F H _ (.refl F) r ?_
          rw [List.append_nil]
          rcases hx with hx | ⟨_, _, hx⟩
          · exact hx
          · exact hx.elim
        · obtain ⟨r', s'⟩ := r.new hp
          exact k _ _ _ s' r' (.tup (.inl (.inl upd_same)) ((h2.append h4).le (.of s')))
      · cases e
    | _ => cases e
  | _ => cases e
theorem os_catL : OpS Z (rCatG Z.X.K) fCatL := by
  intro ρ σ F Fr H x y p q z Q r hx hy e k
  cases p with
  | list ds =>
    cases q with
    | list es =>
      simp only [fCatL] at e
      split at e
      · rename_i hl
        cases e
        obtain ⟨a, xs, rfl, h1, h2⟩ := hx.lst r.fz
        obtain ⟨b, ys, rfl, h3, h4⟩ := hy.lst r.fz
        have l1 := h2.length
        have l2 := h4.length
        refine ⟨a, b, xs, ys, rfl, rfl, h1, h3, ?_, fun p hp => ?_⟩
        · rw [l1, l2]; exact Nat.le_trans hl big_line
        · obtain ⟨f1, f2⟩ := r.fnone hp
          exact k F _ _ (.refl F) (r.newOwn hp) ⟨p, rfl, f1, f2, ⟨_, upd_same, h2.append h4⟩, r.slotne hp⟩
      · cases e
    | _ => cases e
  | _ => cases e
theorem os_catS : OpS Z (fun x y H Q => ∃ i j, x = .str i ∧ y = .str j ∧ i.length + j.length ≤ sizeLine ∧ Q (.str (i ++ j)) H) fCatS := by
  intro ρ σ F Fr H x y p q z Q r hx hy e k
  cases p with
  | str i =>
    cases q with
    | str j =>
      simp only [fCatS] at e
      split at e
      · rename_i hl
        cases e
        exact ⟨i, j, hx.str, hy.str, Nat.le_trans hl big_line, k F H _ (.refl F) r (.str _)⟩
      · cases e
    | _ => cases e
  | _ => cases e
def fAdd : D → D → Option RV := fOr (fI (fun _ _ => true) fun i j => .int (i + j)) (fOr fCatT (fOr fCatL fCatS))
variable {a b : Expr} {ma mb : M} {pos : Pos}
theorem s_add (ha : SE Z a ma) (hb : SE Z b mb) : SE Z (.BinOp a .Add b pos) (mOp fAdd ma mb) :=
  s_op (op_add.or (op_catA.or (op_catG.or op_add_str))) (os_or (os_I0 fun _ _ _ => .int _) (os_or os_catT (os_or os_catL os_catS))) ha hb
def fSub : D → D → Option RV := fI (fun _ _ => true) fun i j => .int (i - j)
theorem s_sub (ha : SE Z a ma) (hb : SE Z b mb) : SE Z (.BinOp a .Sub b pos) (mOp fSub ma mb) := s_op op_sub (os_I0 fun _ _ _ => .int _) ha hb
def fMod : D → D → Option RV := fI (fun _ j => decide (0 < j)) fun i j => .int (i % j)
theorem s_mod (ha : SE Z a ma) (hb : SE Z b mb) : SE Z (.BinOp a .Mod b pos) (mOp fMod ma mb) := s_op op_mod (os_I (fun _ _ h => of_decide_eq_true h) fun _ _ _ => .int _) ha hb
def fDiv : D → D → Option RV := fI (fun _ j => decide (0 < j ∧ j < 1073741824)) fun i j => .int (i / j)
theorem s_div (ha : SE Z a ma) (hb : SE Z b mb) : SE Z (.BinOp a .FloorDiv b pos) (mOp fDiv ma mb) := s_op op_fdiv (os_I (C := CDiv) (fun i j h => of_decide_eq_true (p := 0 < j ∧ j < 1073741824) h) fun _ _ _ => .int _) ha hb
def fPow : D → D → Option RV := fI (fun i j => decide (0 ≤ j ∧ j ≤ 1000000 ∧ i.natAbs < 2 ^ 64)) fun i j => .int (i ^ j.toNat)
theorem s_pow (ha : SE Z a ma) (hb : SE Z b mb) : SE Z (.BinOp a .Pow b pos) (mOp fPow ma mb) := s_op op_pow (os_I (C := CPow) (fun i j h => of_decide_eq_true (p := 0 ≤ j ∧ j ≤ 1000000 ∧ i.natAbs < 2 ^ 64) h) fun _ _ _ => .int _) ha hb
end

/-! ### * -/
theorem tuple_mulS (l : Addr) (items : Array Value) (n : Nat) (dd : Option Addr) (sl : Array (Option Value)) (x : Int) (u : Tok) (c0 : (decide (x < -(2 ^ 63)) || decide (x ≥ 2 ^ 63)) = false) (c1 : (items.isEmpty || x == 1) = true) :
    Meets (Builtin.«tuple.__mul__» ⟨[.ref l, .int x u], []⟩) (fun _ R s => s.heap.get? l = some { cls := .type "tuple", dict := dd, data := .seq items n, slots := sl } ∧ R (.ok (.ret (Value.ref l))) s) :=
  .of_wp fun prog w A R s h => by
    obtain ⟨hp, g, d, tk, os⟩ := s
    obtain ⟨hl, h⟩ := h
    have f1 := AutoSeq1.idx_int
    wp_walk using wpAny_loadPart' hl
    repeat (first
      | (refine wpAny_ite_false (decide_eq_false (by rw [c0]; exact Bool.false_ne_true)) ?_; wp_walk using wpAny_loadPart' hl)
      | (refine wpAny_ite_true (decide_eq_true c1) ?_; wp_walk using wpAny_loadPart' hl)
      | (rw [if_pos c1]; wp_walk using wpAny_loadPart' hl))
    exact ⟨_, rfl, h⟩
theorem tuple_mulE (l : Addr) (items : Array Value) (n : Nat) (dd : Option Addr) (sl : Array (Option Value)) (x : Int) (u : Tok) (c0 : (decide (x < -(2 ^ 63)) || decide (x ≥ 2 ^ 63)) = false) (c1 : (items.isEmpty || x == 1) = false) (c2 : (decide (x ≤ 0) || items.isEmpty) = true) :
    Meets (Builtin.«tuple.__mul__» ⟨[.ref l, .int x u], []⟩) (fun _ R s => s.heap.get? l = some { cls := .type "tuple", dict := dd, data := .seq items n, slots := sl } ∧
      R (.ok (.ret (Value.ref s.heap.objs.size))) { s with heap := s.heap.push { cls := Value.type "tuple", data := Data.seq #[] }, toks := s.toks }) :=
  .of_wp fun prog w A R s h => by
    obtain ⟨hp, g, d, tk, os⟩ := s
    obtain ⟨hl, h⟩ := h
    have f1 := AutoSeq1.idx_int
    wp_walk using wpAny_loadPart' hl
    repeat (first
      | (refine wpAny_ite_false (decide_eq_false (by rw [c0]; exact Bool.false_ne_true)) ?_; wp_walk using wpAny_loadPart' hl)
      | (refine wpAny_ite_false (decide_eq_false (by rw [c1]; exact Bool.false_ne_true)) ?_; wp_walk using wpAny_loadPart' hl)
      | (rw [if_pos c2]; wp_walk using wpAny_loadPart' hl))
    exact ⟨_, rfl, h⟩

def rRepG (K : PySem.W.Frag) : R2 := fun x y H Q => ∃ l k xs, x = .ref l ∧ y = .int k ∧ SqT K H l xs ∧ -1000 ≤ k ∧ k ≤ 1000 ∧ xs.length ≤ 1000 ∧ (xs = [] ∨ k = 1 → Q (.ref l) H) ∧ (¬ (xs = [] ∨ k = 1) → ∀ p, H p = none → Q (.ref p) (upd H p (.tup (List.replicate k.toNat xs).flatten)))
theorem op_repG {X : Cx} : OpR X (binaryOp .Mult) (rRepG X.K) := by
  intro pins s σ H x y v u Q I rx ry h
  obtain ⟨l, k, xs, rfl, rfl, hT, h0, h1, hz, q1, q2⟩ := h
  by_cases hs : xs = [] ∨ k = 1
  · cases rx
    obtain ⟨t, rfl⟩ := ry
    obtain ⟨its, r, ⟨⟨cls, dd, data, sl⟩, ho, hc, n, hd⟩, hsz⟩ := I.tuple hT
    simp only at hc hd
    subst hc hd
    have hle := r.length
    have c0 : (decide (k < -(2 ^ 63)) || decide (k ≥ 2 ^ 63)) = false := by
      rw [decide_eq_false (by omega), decide_eq_false (by omega)] <;> rfl
    have c1 : (its.toArray.isEmpty || k == 1) = true := by
      rcases hs with hs | hs
      · subst hs
        have : its = [] := List.eq_nil_of_length_eq_zero hle.symm
        subst this; rfl
      · subst hs; simp
    refine wpAny_binaryOp_repeat_ref (T := "tuple") (U := "int") (by decide) ⟨_, ho, rfl⟩ (fun s' => typeIs_int s' k t) noFill_tuple_mul PySem.F.fills_int_mul PySem.F.slot_int_rmul repeat_tuple PySem.F.slot_int_index.lookup
      (call_meets PySem.F.slot_int_rmul (typeIs_int s k t) PySem.F.entry_int_rmul (PySem.F.args_int_rmul_2 _ _) (int_rmul_tuple k t l its.toArray n dd sl)
        ⟨ho, rfl, ⟨_, ho, rfl⟩, call_meets PySem.F.slot_tuple_mul ⟨_, ho, rfl⟩ PySem.F.entry_tuple_mul (PySem.F.args_tuple_mul_2 _ _) (tuple_mulS l its.toArray n dd sl k t c0 c1) ⟨ho, ?_⟩⟩)
    exact ⟨.ref l, H, I, rfl, q1 hs⟩
  · have hne : xs ≠ [] := fun e => hs (.inl e)
    have hk1 : k ≠ 1 := fun e => hs (.inr e)
    by_cases hk : 2 ≤ k
    · exact op_repT pins s σ H _ _ v u Q I rx ry ⟨l, k, xs, rfl, rfl, hT, hne, hk, h1, hz, q2 hs⟩
    · cases rx
      obtain ⟨t, rfl⟩ := ry
      obtain ⟨its, r, ⟨⟨cls, dd, data, sl⟩, ho, hc, n, hd⟩, hsz⟩ := I.tuple hT
      simp only at hc hd
      subst hc hd
      have hle := r.length
      have hne' : its ≠ [] := fun e => by subst e; exact hne (List.eq_nil_of_length_eq_zero hle)
      have hi : its.toArray.isEmpty = false := by
        cases its with
        | nil => exact absurd rfl hne'
        | cons a b => rfl
      have c0 : (decide (k < -(2 ^ 63)) || decide (k ≥ 2 ^ 63)) = false := by
        rw [decide_eq_false (by omega), decide_eq_false (by omega)] <;> rfl
      have c1 : (its.toArray.isEmpty || k == 1) = false := by
        rw [hi, Bool.false_or]
        exact beq_eq_false_iff_ne.mpr hk1
      have c2 : (decide (k ≤ 0) || its.toArray.isEmpty) = true := by
        rw [decide_eq_true (by omega)]; rfl
      refine wpAny_binaryOp_repeat_ref (T := "tuple") (U := "int") (by decide) ⟨_, ho, rfl⟩ (fun s' => typeIs_int s' k t) noFill_tuple_mul PySem.F.fills_int_mul PySem.F.slot_int_rmul repeat_tuple PySem.F.slot_int_index.lookup
        (call_meets PySem.F.slot_int_rmul (typeIs_int s k t) PySem.F.entry_int_rmul (PySem.F.args_int_rmul_2 _ _) (int_rmul_tuple k t l its.toArray n dd sl)
          ⟨ho, rfl, ⟨_, ho, rfl⟩, call_meets PySem.F.slot_tuple_mul ⟨_, ho, rfl⟩ PySem.F.entry_tuple_mul (PySem.F.args_tuple_mul_2 _ _) (tuple_mulE l its.toArray n dd sl k t c0 c1 c2) ⟨ho, ?_⟩⟩)
      have q := q2 hs s.heap.objs.size (I.hok.fresh (Nat.le_refl _))
      have e0 : k.toNat = 0 := by omega
      rw [e0] at q
      refine ⟨.ref s.heap.objs.size, _, I.laid (t' := s.toks) (o := .tup []) (fun b ob q => Heap.get?_push_of_some _ q) (Nat.le_refl _) ?_, rfl, q⟩
      exact ⟨Nat.zero_le _, _, .nil, IsTup.new _ _⟩

section
variable {Z : Zx}
def cMul (i j : Int) : Bool := decide ((-(2 ^ 64) < i ∧ i < 2 ^ 64) ∨ (-(2 ^ 64) < j ∧ j < 2 ^ 64))
def repD (k : Nat) (xs : List D) : List D := (List.replicate k xs).flatten
def fRepT : D → D → Option RV
  | .tuple xs, .int k => if -1000 ≤ k ∧ k ≤ 1000 ∧ xs.length ≤ 1000 then some (.val (.tuple (repD k.toNat xs))) else none
  | _, _ => none
theorem RpAll.rep {K : PySem.W.Frag} {F : Hp} {vs : List V} {ds : List D} (h : RpAll K F vs ds) : ∀ n : Nat, RpAll K F (List.replicate n vs).flatten (repD n ds)
  | 0 => .nil
  | n + 1 => by
    unfold repD
    rw [List.replicate_succ, List.replicate_succ, List.flatten_cons, List.flatten_cons]
    exact h.append (h.rep n)
theorem repD_one (xs : List D) : repD 1 xs = xs := by simp [repD]
theorem repD_nil (n : Nat) : repD n [] = [] := by simp [repD]
theorem os_repT : OpS Z (rRepG Z.X.K) fRepT := by
  intro ρ σ F Fr H x y p q z Q r hx hy e k
  cases p with
  | tuple ds =>
    cases q with
    | int n =>
      simp only [fRepT] at e
      split at e
      · rename_i hl
        cases e
        obtain ⟨a, xs, rfl, h1, h2⟩ := hx.tup r.fz
        have l1 := h2.length
        refine ⟨a, n, xs, rfl, hy.int, h1, hl.1, hl.2.1, by rw [l1]; exact hl.2.2, fun e => ?_, fun e p hp => ?_⟩
        · refine k F H _ (.refl F) r ?_
          have e2 : repD n.toNat ds = ds := by
            rcases e with e | e
            · subst e
              cases h2
              exact repD_nil _
            · subst e; exact repD_one ds
          show Rp _ _ _ _
          rw [e2]
          rcases hx with hx | ⟨_, _, hx⟩
          · exact hx
          · exact hx.elim
        · obtain ⟨r', s'⟩ := r.new hp
          exact k _ _ _ s' r' (.tup (.inl (.inl upd_same)) ((h2.rep _).le (.of s')))
      · cases e
    | _ => cases e
  | _ => cases e
variable {a b : Expr} {ma mb : M} {pos : Pos}
def fMul : D → D → Option RV := fOr (fI cMul fun i j => .int (i * j)) fRepT
theorem s_mul (ha : SE Z a ma) (hb : SE Z b mb) : SE Z (.BinOp a .Mult b pos) (mOp fMul ma mb) :=
  s_op (op_mul.or op_repG) (os_or (os_I (C := CMul) (fun i j h => of_decide_eq_true (p := (-(2 ^ 64) < i ∧ i < 2 ^ 64) ∨ (-(2 ^ 64) < j ∧ j < 2 ^ 64)) h) fun _ _ _ => .int _) os_repT) ha hb
/-- [..] * n -/
def mRepL (a b : M) : M := fun ρ => Res.bind (a ρ) fun x ρ1 =>
  match x with
  | .own (.list xs) => Res.bind (b ρ1) fun y ρ2 => match rd ρ2 y with
    | some (.int k) => if -1000000 ≤ k ∧ k ≤ 1000000 ∧ xs.length * k.toNat ≤ big then some (.ok (.own (.list (repD k.toNat xs))) ρ2) else none
    | _ => none
  | _ => none

/-- a fresh object is held aside -/
theorem Rel.hold {K : PySem.W.Frag} {B : Nat → Option Addr} {ρ : Env} {F Fr H : Hp} {σ : L2.St} (r : Rel K B ρ F Fr H σ) {a : Addr} {o : HO} (ha : H a = some o) (fa : F a = none) (fr : Fr a = none)
    (ne : ∀ (i : Nat) (d' : D) (b : Bool), ρ[i]? = some (Slot.own d' b) → σ[i]? ≠ some (some (.ref a))) : Rel K B ρ F (upd Fr a o) H σ := by
  refine ⟨r.len, r.val, fun i d b e => ?_, r.apart, r.fz, fun b u e => ?_, r.bor⟩
  · obtain ⟨a', q1, q2, q3, q4⟩ := r.own i d b e
    have n : a' ≠ a := fun z => ne i d b e (by rw [q1, z])
    exact ⟨a', q1, q2, by rw [upd_ne n]; exact q3, q4⟩
  · by_cases hb : b = a
    · subst hb; rw [upd_same] at e; cases e; exact ⟨ha, fa⟩
    · rw [upd_ne hb] at e; exact r.fr b u e
theorem Rel.unhold {K : PySem.W.Frag} {B : Nat → Option Addr} {ρ : Env} {F Fr H : Hp} {σ : L2.St} {a : Addr} {o : HO} (r : Rel K B ρ F (upd Fr a o) H σ) (fr : Fr a = none) :
    Rel K B ρ F Fr H σ ∧ H a = some o ∧ F a = none ∧ ∀ (i : Nat) (d' : D) (b : Bool), ρ[i]? = some (Slot.own d' b) → σ[i]? ≠ some (some (.ref a)) := by
  obtain ⟨h1, h2⟩ := r.fr a o upd_same
  have ne : ∀ {x : Addr}, (upd Fr a o) x = none → x ≠ a := fun {x} e z => by subst z; rw [upd_same] at e; cases e
  refine ⟨⟨r.len, r.val, fun i d b e => ?_, r.apart, r.fz, fun b u e => ?_, r.bor⟩, h1, h2, fun i d b e z => ?_⟩
  · obtain ⟨a', q1, q2, q3, q4⟩ := r.own i d b e
    have n := ne q3
    rw [upd_ne n] at q3
    exact ⟨a', q1, q2, q3, q4⟩
  · have n : b ≠ a := fun z => by subst z; rw [fr] at e; cases e
    exact r.fr b u (by rw [upd_ne n]; exact e)
  · obtain ⟨a', q1, q2, q3, q4⟩ := r.own i d b e
    rw [q1] at z; cases z
    exact ne q3 rfl
theorem s_repL (ha : SE Z a ma) (hb : SE Z b mb) : SE Z (.BinOp a .Mult b pos) (mRepL ma mb) := by
  refine .mk ?_
  intro ρ σ F Fr H Q rr h
  refine Ce.of (pe_op op_rep pe_C pe_C) ?_
  simp only [mRepL] at h
  refine ha ρ σ F Fr H _ rr ?_
  cases e1 : ma ρ with
  | none => rw [e1] at h; exact h
  | some o => cases o with
    | ex c ρ1 => rw [e1] at h; exact h
    | ok x ρ1 =>
      rw [e1] at h
      simp only [Res.bind] at h
      intro F1 H1 v1 s1 r1 q1
      split at h
      · rename_i xs
        obtain ⟨a1, rfl, f1, g1, ⟨vs, ho, hv⟩, ne1⟩ := q1
        have r1' := r1.hold ho f1 g1 ne1
        refine hb.use r1' (fun y ρ2 e2 F2 H2 v2 s2 r2 q2 => ?_) (fun c ρ2 e2 F2 H2 s2 r2 => ?_) (fun e2 => ?_)
        · rw [e2] at h
          simp only at h
          split at h
          · rename_i k ek
            split at h
            · rename_i hk
              obtain ⟨r3, hH, hF, ne3⟩ := r2.unhold g1
              have hv2 : RpT Z.X.K F2 H2 v2 (.int k) := r3.rd (x := y.fz) (RVRel.mv (.refl F2) q2) (by rw [rd_fz]; exact ek)
              have l1 := hv.length
              refine ⟨a1, k, vs, rfl, hv2.int, hH, by omega, by omega, ?_, fun p hp => ?_⟩
              · rw [l1]; exact Nat.le_trans hk.2.2 big_line
              · obtain ⟨f3, g3⟩ := r3.fnone hp
                exact h F2 _ _ (s1.trans s2) (r3.newOwn hp) ⟨p, rfl, f3, g3, ⟨_, upd_same, (hv.le (.of s2)).rep _⟩, r3.slotne hp⟩
            · exact h.elim
          · exact h.elim
        · rw [e2] at h
          exact h F2 H2 (s1.trans s2) (r2.unhold g1).1
        · rw [e2] at h; exact h
      · exact h.elim
end
end Pi
set_option maxRecDepth 100000
set_option maxHeartbeats 1000000
namespace Pi
open PySem PySem.Spec PyProof.Rows L2

/-! ### data for the library's own == and str -/
section
variable {K : PySem.W.Frag} {F H : Hp}
mutual
theorem Rp.dp : ∀ {d : D} {v : V}, Rp K F v d → d.canLay0 = true → Dp K F v d
  | .none, _, .non, _ => .non
  | .bool _, _, .bl b, _ => .bl b
  | .int _, _, .int i, _ => .int i
  | .str _, _, .str x, _ => .str x
  | .list _, _, .lst h r, c => .lst h (r.dp (by simpa only [PyData.canLay0] using c))
  | .tuple _, _, .tup h r, c => .tup h (r.dp (by simpa only [PyData.canLay0] using c))
  | .dict _, _, _, c => by simp [PyData.canLay0] at c
theorem RpAll.dp : ∀ {ds : List D} {vs : List V}, RpAll K F vs ds → PyData.canLayAll0 ds = true → DpAll K F vs ds
  | [], _, .nil, _ => .nil
  | _ :: _, _, .cons h r, c => by
    simp only [PyData.canLayAll0, Bool.and_eq_true] at c
    exact .cons (h.dp c.1) (r.dp c.2)
end
theorem RpT.rp {v : V} {d : D} (s : Same F H) (h : RpT K F H v d) : Rp K H v d := by
  rcases h with h | ⟨a, e, h⟩
  · exact h.le (.of s)
  · subst e
    cases d with
    | list ds => obtain ⟨xs, h1, h2⟩ := h; exact .lst (.inl (.inl h1)) (h2.le (.of s))
    | dict ds => obtain ⟨xs, h1, h2⟩ := h; exact .dct (.inl h1) (h2.le (.of s))
    | _ => exact h.elim
theorem RpT.dp {v : V} {d : D} (s : Same F H) (h : RpT K F H v d) (c : SeqAt.shaped d = true) : Dp K H v d := (h.rp s).dp (SeqAt.canLay_of_shaped c)
end

/-! ### comparisons -/
section
variable {Z : Zx} {a b : Expr} {ma mb : M} {pos : Pos}
def fEqD : D → D → Option RV := fun x y => if SeqAt.shaped x = true ∧ SeqAt.shaped y = true then some (.val (.bool (PyData.eqv x y))) else none
def fNeD : D → D → Option RV := fun x y => if SeqAt.shaped x = true ∧ SeqAt.shaped y = true then some (.val (.bool (!PyData.eqv x y))) else none
theorem os_eqD : OpS Z (rEqD Z.X.K) fEqD := by
  intro ρ σ F Fr H x y p q z Q r hx hy e k
  unfold fEqD at e
  split at e
  · rename_i h
    cases e
    exact ⟨p, q, hx.dp r.fz h.1, hy.dp r.fz h.2, h.1, h.2, k F H _ (.refl F) r (.bl _)⟩
  · cases e
theorem os_neD : OpS Z (rNeD Z.X.K) fNeD := by
  intro ρ σ F Fr H x y p q z Q r hx hy e k
  unfold fNeD at e
  split at e
  · rename_i h
    cases e
    exact ⟨p, q, hx.dp r.fz h.1, hy.dp r.fz h.2, h.1, h.2, k F H _ (.refl F) r (.bl _)⟩
  · cases e
/-- two texts -/
def fEqS (neg : Bool) : D → D → Option RV
  | .str x, .str y => some (.val (.bool (if neg = true then !decide (x = y) else decide (x = y))))
  | _, _ => none
theorem os_eqS : OpS Z rEq (fEqS false) := by
  intro ρ σ F Fr H x y p q z Q r hx hy e k
  cases p with
  | str i =>
    cases q with
    | str j =>
      cases e
      have e1 := hx.str
      have e2 := hy.str
      subst e1 e2
      have d : decide (V.str i = V.str j) = decide (i = j) := by simp
      exact ⟨rfl, by rw [d]; exact k F H _ (.refl F) r (.bl _)⟩
    | _ => cases e
  | _ => cases q <;> cases e
theorem os_neS : OpS Z rNe (fEqS true) := by
  intro ρ σ F Fr H x y p q z Q r hx hy e k
  cases p with
  | str i =>
    cases q with
    | str j =>
      cases e
      have e1 := hx.str
      have e2 := hy.str
      subst e1 e2
      have d : decide (V.str i = V.str j) = decide (i = j) := by simp
      exact ⟨rfl, by rw [d]; exact k F H _ (.refl F) r (.bl _)⟩
    | _ => cases e
  | _ => cases q <;> cases e
def fEq : D → D → Option RV := fOr (fEqS false) fEqD
def fNe : D → D → Option RV := fOr (fEqS true) fNeD
theorem bEqS (n : Bool) : ∀ p q z, fEqS n p q = some z → ∃ k, z = RV.val (.bool k) := fun p q z e => by
  cases p <;> cases q <;> simp only [fEqS] at e <;> cases e <;> exact ⟨_, rfl⟩
theorem bOr {f g : D → D → Option RV} (hf : ∀ p q z, f p q = some z → ∃ k, z = RV.val (.bool k)) (hg : ∀ p q z, g p q = some z → ∃ k, z = RV.val (.bool k)) : ∀ p q z, fOr f g p q = some z → ∃ k, z = RV.val (.bool k) := fun p q z e => by
  unfold fOr at e
  cases e1 : f p q with
  | some y => rw [e1] at e; cases e; exact hf _ _ _ e1
  | none => rw [e1] at e; exact hg _ _ _ e
theorem bEqD : ∀ p q z, fEqD p q = some z → ∃ k, z = RV.val (.bool k) := fun p q z e => by unfold fEqD at e; split at e <;> cases e; exact ⟨_, rfl⟩
theorem bNeD : ∀ p q z, fNeD p q = some z → ∃ k, z = RV.val (.bool k) := fun p q z e => by unfold fNeD at e; split at e <;> cases e; exact ⟨_, rfl⟩
theorem os_eq : OpS Z (fun x y H Q => rEq x y H Q ∨ rEqD Z.X.K x y H Q) fEq := os_or os_eqS os_eqD
theorem os_ne : OpS Z (fun x y H Q => rNe x y H Q ∨ rNeD Z.X.K x y H Q) fNe := os_or os_neS os_neD
theorem s_eq (z : Z.Ok) (ha : SE Z a ma) (hb : SE Z b mb) : SE Z (.Compare a [.Eq] [b] pos) (mOp fEq ma mb) := s_cmp (op_eq.or (op_eqD z.room.units)) os_eq ha hb
theorem s_ne (z : Z.Ok) (ha : SE Z a ma) (hb : SE Z b mb) : SE Z (.Compare a [.NotEq] [b] pos) (mOp fNe ma mb) := s_cmp (op_ne.or (op_neD z.room.units)) os_ne ha hb
def fLt : D → D → Option RV := fI (fun _ _ => true) fun i j => .bool (decide (i < j))
def fLe : D → D → Option RV := fI (fun _ _ => true) fun i j => .bool (decide (i ≤ j))
def fGt : D → D → Option RV := fI (fun _ _ => true) fun i j => .bool (decide (j < i))
def fGe : D → D → Option RV := fI (fun _ _ => true) fun i j => .bool (decide (j ≤ i))
theorem s_lt (ha : SE Z a ma) (hb : SE Z b mb) : SE Z (.Compare a [.Lt] [b] pos) (mOp fLt ma mb) := s_cmp op_lt (os_I0 fun _ _ _ => .bl _) ha hb
theorem s_le (ha : SE Z a ma) (hb : SE Z b mb) : SE Z (.Compare a [.LtE] [b] pos) (mOp fLe ma mb) := s_cmp op_le (os_I0 fun _ _ _ => .bl _) ha hb
theorem s_gt (ha : SE Z a ma) (hb : SE Z b mb) : SE Z (.Compare a [.Gt] [b] pos) (mOp fGt ma mb) := s_cmp op_gt (os_I0 fun _ _ _ => .bl _) ha hb
theorem s_ge (ha : SE Z a ma) (hb : SE Z b mb) : SE Z (.Compare a [.GtE] [b] pos) (mOp fGe ma mb) := s_cmp op_ge (os_I0 fun _ _ _ => .bl _) ha hb
/-- is None, is not None -/
def fIsN (neg : Bool) : D → D → Option RV
  | .none, .none => some (.val (.bool (!neg)))
  | _, .none => some (.val (.bool neg))
  | _, _ => none
theorem RpT.non_iff {K : PySem.W.Frag} {F H : Hp} {v : V} {d : D} (h : RpT K F H v d) : (decide (v = .non)) = (match d with | .none => true | _ => false) := by
  rcases h with h | ⟨a, e, h⟩
  · cases h <;> rfl
  · subst e
    cases d with
    | list ds => rfl
    | dict ds => rfl
    | _ => exact h.elim
theorem os_isN : OpS Z (fun x y H Q => y = .non ∧ Q (.bl (decide (x = .non))) H) (fIsN false) := by
  intro ρ σ F Fr H x y p q z Q r hx hy e k
  cases q with
  | none =>
    refine ⟨hy.none, ?_⟩
    have e2 := hx.non_iff
    cases p <;> (simp only [fIsN] at e; cases e; rw [e2]; exact k F H _ (.refl F) r (.bl _))
  | _ => cases p <;> cases e
theorem os_notN : OpS Z (fun x y H Q => y = .non ∧ Q (.bl (!decide (x = .non))) H) (fIsN true) := by
  intro ρ σ F Fr H x y p q z Q r hx hy e k
  cases q with
  | none =>
    refine ⟨hy.none, ?_⟩
    have e2 := hx.non_iff
    cases p <;> (simp only [fIsN] at e; cases e; rw [e2]; exact k F H _ (.refl F) r (.bl _))
  | _ => cases p <;> cases e
theorem s_isN (ha : SE Z a ma) {j : Nat} {pos' : Pos} : SE Z (.Compare a [.Is] [.Constant .none j pos'] pos) (mOp (fIsN false) ma (mC .none)) := s_cmp op_isN os_isN ha s_non
theorem s_notN (ha : SE Z a ma) {j : Nat} {pos' : Pos} : SE Z (.Compare a [.IsNot] [.Constant .none j pos'] pos) (mOp (fIsN true) ma (mC .none)) := s_cmp op_notN os_notN ha s_non
end

/-! ### x in a tuple or list -/
def flatD : D → Bool
  | .none => true
  | .bool _ => true
  | .int _ => true
  | .str _ => true
  | _ => false
theorem Rp.flat {K : PySem.W.Frag} {F : Hp} {v : V} {d : D} (h : Rp K F v d) : flatV v = flatD d := by cases h <;> rfl
theorem RpT.flat {K : PySem.W.Frag} {F H : Hp} {v : V} {d : D} (h : RpT K F H v d) (f : flatD d = true) : Rp K F v d := by
  rcases h with h | ⟨a, e, h⟩
  · exact h
  · cases d with
    | list ds => cases f
    | dict ds => cases f
    | _ => exact h.elim
theorem eqV_eqv {K : PySem.W.Frag} {F : Hp} {v u : V} {d e : D} (h : Rp K F v d) (k : Rp K F u e) (f : flatD d = true) (g : flatD e = true) : eqV v u = PyData.eqv d e := by
  cases h <;> cases k <;> first | rfl | cases f | cases g | (simp [eqV, PyData.eqv]; done)
theorem flat_all {K : PySem.W.Frag} {F : Hp} : ∀ {vs : List V} {ds : List D}, RpAll K F vs ds → vs.all flatV = ds.all flatD
  | _, _, .nil => rfl
  | _, _, .cons h r => by rw [List.all_cons, List.all_cons, h.flat, flat_all r]
theorem inV_any {K : PySem.W.Frag} {F : Hp} {v : V} {d : D} (h : Rp K F v d) (f : flatD d = true) : ∀ {vs : List V} {ds : List D}, RpAll K F vs ds → ds.all flatD = true → (vs.any fun y => eqV y v) = ds.any fun y => PyData.eqv y d
  | _, _, .nil, _ => rfl
  | _, _, .cons k r, g => by
    rw [List.all_cons, Bool.and_eq_true] at g
    rw [List.any_cons, List.any_cons, eqV_eqv k h g.1 f, inV_any h f r g.2]
section
variable {Z : Zx} {a b : Expr} {ma mb : M} {pos : Pos}
def itemsD : D → Option (List D)
  | .list ds => some ds
  | .tuple ds => some ds
  | _ => none
def fIn (neg : Bool) : D → D → Option RV := fun x y => match itemsD y with
  | some ds => if flatD x = true ∧ ds.all flatD = true then some (.val (.bool (if neg then !(ds.any fun y => PyData.eqv y x) else ds.any fun y => PyData.eqv y x))) else none
  | none => none
theorem items_seq {K : PySem.W.Frag} {F H : Hp} {v : V} {d : D} {ds : List D} (s : Same F H) (h : RpT K F H v d) (e : itemsD d = some ds) : ∃ p xs, v = .ref p ∧ (SqL K H p xs ∨ SqT K H p xs) ∧ RpAll K F xs ds := by
  cases d with
  | list es => cases e; obtain ⟨a, xs, e1, e2, e3⟩ := h.lst s; exact ⟨a, xs, e1, .inl e2, e3⟩
  | tuple es => cases e; obtain ⟨a, xs, e1, e2, e3⟩ := h.tup s; exact ⟨a, xs, e1, .inr e2, e3⟩
  | _ => cases e
theorem os_in (neg : Bool) : OpS Z (rIn Z.X.K neg) (fIn neg) := by
  intro ρ σ F Fr H x y p q z Q r hx hy e k
  unfold fIn at e
  split at e
  · rename_i ds hd
    split at e
    · rename_i hf
      cases e
      obtain ⟨a, xs, rfl, hs, hr⟩ := items_seq r.fz hy hd
      have hx' := hx.flat hf.1
      refine ⟨a, xs, rfl, hs, by rw [hx'.flat]; exact hf.1, by rw [flat_all hr]; exact hf.2, ?_⟩
      have ei : inV x xs = ds.any fun y => PyData.eqv y p := inV_any hx' hf.1 hr hf.2
      rw [ei]
      exact k F H _ (.refl F) r (.bl _)
    · cases e
  · cases e
theorem s_in (ha : SE Z a ma) (hb : SE Z b mb) (hm : behindInMarks .In b = false := by kernel_rfl) : SE Z (.Compare a [.In] [b] pos) (mOp (fIn false) ma mb) := s_cmp op_in_seq (os_in false) ha hb hm
theorem s_nin (ha : SE Z a ma) (hb : SE Z b mb) (hm : behindInMarks .NotIn b = false := by kernel_rfl) : SE Z (.Compare a [.NotIn] [b] pos) (mOp (fIn true) ma mb) := s_cmp op_notIn_seq (os_in true) ha hb hm

/-! ### x[i] -/
def fIx : D → D → Option RV := fun x y => match itemsD x, y with
  | some ds, .int i => match atI ds i with
    | some d => some (.val d)
    | none => none
  | _, _ => none
theorem atI_rp {K : PySem.W.Frag} {F : Hp} {vs : List V} {ds : List D} {i : Int} {d : D} (h : RpAll K F vs ds) (e : atI ds i = some d) : ∃ v, atI vs i = some v ∧ Rp K F v d := by
  unfold atI at e ⊢
  rw [h.length]
  cases hj : ixN ds.length i with
  | none => rw [hj] at e; cases e
  | some j =>
    rw [hj] at e
    exact h.get e
theorem os_ix : OpS Z (rIx Z.X.K) fIx := by
  intro ρ σ F Fr H x y p q z Q r hx hy e k
  unfold fIx at e
  split at e
  · rename_i ds i hd
    split at e
    · rename_i d he
      cases e
      obtain ⟨a, xs, rfl, hs, hr⟩ := items_seq r.fz hx hd
      obtain ⟨v, hv, rv⟩ := atI_rp hr he
      have q := k F H v (.refl F) r rv
      rcases hs with hs | hs
      · exact .inl ⟨a, xs, i, v, rfl, hy.int, hs, hv, q⟩
      · exact .inr (.inl ⟨a, xs, i, v, rfl, hy.int, hs, hv, q⟩)
    · cases e
  · cases e
theorem s_at (ha : SE Z a ma) (hb : SE Z b mb) (hp : PlainIx b := by intro _ _; kernel_rfl) : SE Z (.Subscript a b pos) (mOp fIx ma mb) := s_ix ix_seq os_ix ha hb hp
end

/-! ### -x; truth -/
section
variable {Z : Zx} {a b c : Expr} {ma mb mc : M} {pos : Pos}
def mUn (f : D → Option RV) (a : M) : M := fun ρ => Res.bind (a ρ) fun x ρ1 => match rd ρ1 x with
  | some p => (f p).map fun r => .ok r ρ1
  | none => none
def fNeg : D → Option RV
  | .int i => some (.val (.int (-i)))
  | _ => none
theorem un_run {r : V → Hp → VK → Prop} {f : D → Option RV} (ha : SE Z a ma)
    (o : ∀ ρ σ F Fr H x p z (Q : VK), Rel Z.X.K Z.B ρ F Fr H σ → RpT Z.X.K F H x p → f p = some z → (∀ F' H' v, Same F F' → Rel Z.X.K Z.B ρ F' Fr H' σ → RVRel Z.X.K ρ F' Fr H' σ v z → Q v H') → r x H Q)
    {ρ : Env} {σ : L2.St} {F Fr H : Hp} {Q : VK} (rr : Rel Z.X.K Z.B ρ F Fr H σ) (h : PostE Z σ F Fr Q (mUn f ma ρ)) : Ce Z.X a σ H fun x H1 => r x H1 Q := by
  simp only [mUn] at h
  refine ha.use rr (fun x ρ1 e1 F1 H1 v1 s1 r1 q1 => ?_) (fun c ρ1 e1 F1 H1 s1 r1 => ?_) (fun e1 => ?_)
  · rw [e1] at h
    simp only [Res.bind] at h
    split at h
    · rename_i p ep
      cases ef : f p with
      | none => rw [ef] at h; exact h.elim
      | some z =>
        rw [ef] at h
        exact o ρ1 σ F1 Fr H1 v1 p z Q r1 (r1.rd (x := x.fz) q1 (by rw [rd_fz]; exact ep)) ef fun F' H' v s' r' q' => h F' H' v (s1.trans s') r' q'
    · exact h.elim
  · rw [e1] at h; exact h F1 H1 s1 r1
  · rw [e1] at h; exact h
theorem s_neg (ha : SE Z a ma) : SE Z (.UnaryOp .USub a pos) (mUn fNeg ma) := by
  refine .mk ?_
  intro ρ σ F Fr H Q rr h
  refine Ce.of (pe_un un_neg pe_C) (un_run ha (fun ρ σ F Fr H x p z Q r hx e k => ?_) rr h)
  cases p with
  | int i => cases e; exact ⟨i, hx.int, k F H _ (.refl F) r (.int _)⟩
  | _ => cases e
def truG : D → Bool
  | .none => true
  | .bool _ => true
  | .int _ => true
  | .str x => decide (x.length ≤ big)
  | .list _ => true
  | .tuple _ => true
  | .dict _ => false
theorem tru_of {K : PySem.W.Frag} {F H : Hp} {v : V} {d : D} (s : Same F H) (h : RpT K F H v d) (nd : truG d = true) : TruV K v H (truth d) := by
  cases d with
  | none => cases h.none; exact rfl
  | bool b => cases h.bool; exact rfl
  | int i => cases h.int; exact rfl
  | str x => cases h.str; exact ⟨Nat.le_trans (of_decide_eq_true nd) big_line, rfl⟩
  | list ds =>
    obtain ⟨a, xs, rfl, h1, h2⟩ := h.lst s
    refine .inl ⟨xs, h1, ?_⟩
    cases h2 <;> rfl
  | tuple ds =>
    obtain ⟨a, xs, rfl, h1, h2⟩ := h.tup s
    refine .inr (.inl ⟨xs, h1, ?_⟩)
    cases h2 <;> rfl
  | dict _ => cases nd
def truD (d : D) : Option Bool := if truG d = true then some (truth d) else none
def mNot (a : M) : M := mUn (fun p => (truD p).map fun b => .val (.bool (!b))) a
theorem s_not (ha : SE Z a ma) : SE Z (.UnaryOp .Not a pos) (mNot ma) := by
  refine .mk ?_
  intro ρ σ F Fr H Q rr h
  refine Ce.of (pe_notT pe_C) (un_run (r := fun x H Q => ∃ k, TruV Z.X.K x H k ∧ Q (V.bl !k) H) ha (fun ρ σ F Fr H x p z Q r hx e k => ?_) rr h)
  unfold truD at e
  split at e
  · rename_i ht
    cases e
    exact ⟨truth p, tru_of r.fz hx ht, k F H _ (.refl F) r (.bl _)⟩
  · cases e
/-- the truth of a piece -/
def mTru (m : M) : MT := fun ρ => Res.bind (m ρ) fun x ρ1 => match rd ρ1 x with
  | some p => (truD p).map fun b => .ok b ρ1
  | none => none
/-- x or y, x and y: the one or the other -/
def mOr (a b : M) : M := fun ρ => Res.bind (a ρ) fun x ρ1 => match rd ρ1 x with
  | some p => match truD p with
    | some true => some (.ok x.fz ρ1)
    | some false => b ρ1
    | none => none
  | none => none
def mAnd (a b : M) : M := fun ρ => Res.bind (a ρ) fun x ρ1 => match rd ρ1 x with
  | some p => match truD p with
    | some true => b ρ1
    | some false => some (.ok x.fz ρ1)
    | none => none
  | none => none
theorem truD_some {d : D} {b : Bool} (h : truD d = some b) {K : PySem.W.Frag} {F H : Hp} {v : V} (s : Same F H) (r : RpT K F H v d) : TruV K v H b := by
  unfold truD at h
  split at h
  · rename_i ht
    cases h
    exact tru_of s r ht
  · cases h
theorem s_or {rest : List Expr} (ha : SE Z a ma) (hb : SE Z (.BoolOp .Or (b :: rest) pos) mb) : SE Z (.BoolOp .Or (a :: b :: rest) pos) (mOr ma mb) := by
  refine .mk ?_
  intro ρ σ F Fr H Q rr h
  refine Ce.of (pe_orT pe_C pe_C) ?_
  simp only [mOr] at h
  refine ha.use rr (fun x ρ1 e1 F1 H1 v1 s1 r1 q1 => ?_) (fun c ρ1 e1 F1 H1 s1 r1 => ?_) (fun e1 => ?_)
  · rw [e1] at h
    simp only [Res.bind] at h
    split at h
    · rename_i p ep
      have hx := r1.rd (x := x.fz) q1 (by rw [rd_fz]; exact ep)
      split at h
      · rename_i ht
        exact ⟨true, truD_some ht r1.fz hx, iteT (h F1 H1 v1 s1 r1 q1)⟩
      · rename_i ht
        exact ⟨false, truD_some ht r1.fz hx, iteF (hb ρ1 σ F1 Fr H1 Q r1 (h.le s1))⟩
      · exact h.elim
    · exact h.elim
  · rw [e1] at h; exact h F1 H1 s1 r1
  · rw [e1] at h; exact h
theorem s_and {rest : List Expr} (ha : SE Z a ma) (hb : SE Z (.BoolOp .And (b :: rest) pos) mb) : SE Z (.BoolOp .And (a :: b :: rest) pos) (mAnd ma mb) := by
  refine .mk ?_
  intro ρ σ F Fr H Q rr h
  refine Ce.of (pe_andT pe_C pe_C) ?_
  simp only [mAnd] at h
  refine ha.use rr (fun x ρ1 e1 F1 H1 v1 s1 r1 q1 => ?_) (fun c ρ1 e1 F1 H1 s1 r1 => ?_) (fun e1 => ?_)
  · rw [e1] at h
    simp only [Res.bind] at h
    split at h
    · rename_i p ep
      have hx := r1.rd (x := x.fz) q1 (by rw [rd_fz]; exact ep)
      split at h
      · rename_i ht
        exact ⟨true, truD_some ht r1.fz hx, iteT (hb ρ1 σ F1 Fr H1 Q r1 (h.le s1))⟩
      · rename_i ht
        exact ⟨false, truD_some ht r1.fz hx, iteF (h F1 H1 v1 s1 r1 q1)⟩
      · exact h.elim
    · exact h.elim
  · rw [e1] at h; exact h F1 H1 s1 r1
  · rw [e1] at h; exact h
theorem s_one {op : BoolOp} (ha : SE Z a ma) : SE Z (.BoolOp op [a] pos) ma := .mk fun ρ σ F Fr H Q rr h => Ce.of (pe_one pe_C) (ha ρ σ F Fr H Q rr h)

/-! ### tests -/
theorem mTru_use {m : M} {ρ : Env} {σ : L2.St} {F Fr H : Hp} {Q : Bool → Hp → Prop} {e : Expr} (he : SE Z e m) (rr : Rel Z.X.K Z.B ρ F Fr H σ) (h : PostT Z σ F Fr Q (mTru m ρ)) : Ce Z.X e σ H fun x H1 => ∃ k, TruV Z.X.K x H1 k ∧ Q k H1 := by
  simp only [mTru] at h
  refine he.use rr (fun x ρ1 e1 F1 H1 v1 s1 r1 q1 => ?_) (fun c ρ1 e1 F1 H1 s1 r1 => ?_) (fun e1 => ?_)
  · rw [e1] at h
    simp only [Res.bind] at h
    split at h
    · rename_i p ep
      have hx := r1.rd (x := x.fz) q1 (by rw [rd_fz]; exact ep)
      cases ht : truD p with
      | none => rw [ht] at h; exact h.elim
      | some b =>
        rw [ht] at h
        exact ⟨b, truD_some ht r1.fz hx, h F1 H1 s1 r1⟩
    · exact h.elim
  · rw [e1] at h; exact h F1 H1 s1 r1
  · rw [e1] at h; exact h
/-- any piece as a test -/
theorem t_val (ha : SE Z a ma) (he : ∀ whole, PySem.isTrue a Z.X.env whole = (do let v ← whole; standAt a.pos; holding [v] (truthy v)) := by intro _; kernel_rfl) : ST Z a (mTru ma) := by
  refine .mk ?_
  intro ρ σ F Fr H Q rr h
  exact Ct.of (pt_truth pe_C he) (mTru_use ha rr h)
/-- a comparison as a test: by its rule -/
theorem t_op {op : CmpOp} {r : R2} {f : D → D → Option RV} (ho : OpR Z.X (compareOp op) r) (o : OpS Z r f) (hb' : ∀ p q z, f p q = some z → ∃ k, z = .val (.bool k)) (ha : SE Z a ma) (hb : SE Z b mb)
    (hm : behindInMarks op b = false := by first | exact nomark _ | rfl) : ST Z (.Compare a [op] [b] pos) (mTru (mOp f ma mb)) := by
  refine .mk ?_
  intro ρ σ F Fr H Q rr h
  refine Ct.of (pt_cmpR ho pe_C pe_C hm) ?_
  refine op_run (Q := fun x H' => ∃ k, x = .bl k ∧ Q k H') ha hb o rr ?_
  simp only [mTru] at h
  have key : ∀ ρ' z, mOp f ma mb ρ = some (.ok z ρ') → ∃ k, z = .val (.bool k) := fun ρ' z e => by
    simp only [mOp] at e
    cases e1 : ma ρ with
    | none => rw [e1] at e; cases e
    | some o1 => cases o1 with
      | ex c ρ1 => rw [e1] at e; cases e
      | ok x ρ1 =>
        rw [e1] at e
        simp only [Res.bind] at e
        cases e2 : mb ρ1 with
        | none => rw [e2] at e; cases e
        | some o2 => cases o2 with
          | ex c ρ2 => rw [e2] at e; cases e
          | ok y ρ2 =>
            rw [e2] at e
            simp only at e
            split at e
            · rename_i p q _ _
              cases ef : f p q with
              | none => rw [ef] at e; cases e
              | some z1 => rw [ef] at e; cases e; exact hb' _ _ _ ef
            · cases e
  cases e : mOp f ma mb ρ with
  | none => rw [e] at h; exact h
  | some o1 => cases o1 with
    | ex c ρ1 => rw [e] at h; exact h
    | ok z ρ1 =>
      obtain ⟨k, rfl⟩ := key ρ1 z e
      rw [e] at h
      intro F' H' v s' r' q'
      have q' : Rp _ _ _ _ := q'
      cases q'
      exact ⟨k, rfl, h F' H' s' r'⟩
theorem bI (c : Int → Int → Bool) (g : Int → Int → Bool) : ∀ p q z, fI c (fun i j => .bool (g i j)) p q = some z → ∃ k, z = RV.val (.bool k) := fun p q z e => by
  unfold fI at e
  split at e
  · split at e
    · cases e; exact ⟨_, rfl⟩
    · cases e
  · cases e
theorem t_lt (ha : SE Z a ma) (hb : SE Z b mb) : ST Z (.Compare a [.Lt] [b] pos) (mTru (mOp fLt ma mb)) := t_op op_lt (os_I0 fun _ _ _ => .bl _) (bI _ _) ha hb
theorem t_le (ha : SE Z a ma) (hb : SE Z b mb) : ST Z (.Compare a [.LtE] [b] pos) (mTru (mOp fLe ma mb)) := t_op op_le (os_I0 fun _ _ _ => .bl _) (bI _ _) ha hb
theorem t_gt (ha : SE Z a ma) (hb : SE Z b mb) : ST Z (.Compare a [.Gt] [b] pos) (mTru (mOp fGt ma mb)) := t_op op_gt (os_I0 fun _ _ _ => .bl _) (bI _ _) ha hb
theorem t_ge (ha : SE Z a ma) (hb : SE Z b mb) : ST Z (.Compare a [.GtE] [b] pos) (mTru (mOp fGe ma mb)) := t_op op_ge (os_I0 fun _ _ _ => .bl _) (bI _ _) ha hb
theorem t_eq (z : Z.Ok) (ha : SE Z a ma) (hb : SE Z b mb) : ST Z (.Compare a [.Eq] [b] pos) (mTru (mOp fEq ma mb)) := t_op (op_eq.or (op_eqD z.room.units)) os_eq (bOr (bEqS _) bEqD) ha hb
theorem t_ne (z : Z.Ok) (ha : SE Z a ma) (hb : SE Z b mb) : ST Z (.Compare a [.NotEq] [b] pos) (mTru (mOp fNe ma mb)) := t_op (op_ne.or (op_neD z.room.units)) os_ne (bOr (bEqS _) bNeD) ha hb
theorem bIsN (n : Bool) : ∀ p q z, fIsN n p q = some z → ∃ k, z = RV.val (.bool k) := fun p q z e => by
  cases p <;> cases q <;> simp only [fIsN] at e <;> cases e <;> exact ⟨_, rfl⟩
theorem t_isN (ha : SE Z a ma) {j : Nat} {pos' : Pos} : ST Z (.Compare a [.Is] [.Constant .none j pos'] pos) (mTru (mOp (fIsN false) ma (mC .none))) := t_op op_isN os_isN (bIsN _) ha s_non
theorem t_notN (ha : SE Z a ma) {j : Nat} {pos' : Pos} : ST Z (.Compare a [.IsNot] [.Constant .none j pos'] pos) (mTru (mOp (fIsN true) ma (mC .none))) := t_op op_notN os_notN (bIsN _) ha s_non
theorem bIn (n : Bool) : ∀ p q z, fIn n p q = some z → ∃ k, z = RV.val (.bool k) := fun p q z e => by
  unfold fIn at e
  split at e
  · split at e
    · cases e; exact ⟨_, rfl⟩
    · cases e
  · cases e
theorem t_in (ha : SE Z a ma) (hb : SE Z b mb) (hm : behindInMarks .In b = false := by kernel_rfl) : ST Z (.Compare a [.In] [b] pos) (mTru (mOp (fIn false) ma mb)) := t_op op_in_seq (os_in false) (bIn _) ha hb hm
theorem t_nin (ha : SE Z a ma) (hb : SE Z b mb) (hm : behindInMarks .NotIn b = false := by kernel_rfl) : ST Z (.Compare a [.NotIn] [b] pos) (mTru (mOp (fIn true) ma mb)) := t_op op_notIn_seq (os_in true) (bIn _) ha hb hm

def mtAnd (a b : MT) : MT := fun ρ => Res.bind (a ρ) fun x ρ1 => if x = true then b ρ1 else some (.ok false ρ1)
def mtOr (a b : MT) : MT := fun ρ => Res.bind (a ρ) fun x ρ1 => if x = true then some (.ok true ρ1) else b ρ1
def mtNot (a : MT) : MT := fun ρ => Res.bind (a ρ) fun x ρ1 => some (.ok (!x) ρ1)
variable {ta tb : MT}
theorem w_one_and (ha : ST Z a ta) : SW Z (.BoolOp .And [a] pos) ta := .mk fun ρ σ F Fr H Q rr h => Cw.of (pw_and1 pt_C) (ha ρ σ F Fr H Q rr h)
theorem w_one_or (ha : ST Z a ta) : SW Z (.BoolOp .Or [a] pos) ta := .mk fun ρ σ F Fr H Q rr h => Cw.of (pw_or1 pt_C) (ha ρ σ F Fr H Q rr h)
theorem use_T {m : MT} {ρ : Env} {σ : L2.St} {F Fr : Hp} {Q Q' : Bool → Hp → Prop} {f : Bool → MT} (h : PostT Z σ F Fr Q (Res.bind (m ρ) f))
    (k : ∀ x ρ1 F1 H1, Same F F1 → Rel Z.X.K Z.B ρ1 F1 Fr H1 σ → PostT Z σ F1 Fr Q (f x ρ1) → Q' x H1) : PostT Z σ F Fr Q' (m ρ) := by
  cases e : m ρ with
  | none => rw [e] at h; exact h
  | some o => cases o with
    | ex c ρ1 => rw [e] at h; exact h
    | ok x ρ1 =>
      rw [e] at h
      exact fun F' H' s' r' => k x ρ1 F' H' s' r' (PostT.le s' h)
theorem w_and {rest : List Expr} (ha : ST Z a ta) (hb : SW Z (.BoolOp .And (b :: rest) pos) tb) : SW Z (.BoolOp .And (a :: b :: rest) pos) (mtAnd ta tb) := by
  refine .mk ?_
  intro ρ σ F Fr H Q rr h
  refine Cw.of (pw_and pt_C pw_C) (ha ρ σ F Fr H _ rr (use_T h fun x ρ1 F1 H1 s1 r1 h1 => ?_))
  cases x with
  | true => exact iteT (hb ρ1 σ F1 Fr H1 Q r1 h1)
  | false => exact iteF (h1 F1 H1 (.refl F1) r1)
theorem w_or {rest : List Expr} (ha : ST Z a ta) (hb : SW Z (.BoolOp .Or (b :: rest) pos) tb) : SW Z (.BoolOp .Or (a :: b :: rest) pos) (mtOr ta tb) := by
  refine .mk ?_
  intro ρ σ F Fr H Q rr h
  refine Cw.of (pw_or pt_C pw_C) (ha ρ σ F Fr H _ rr (use_T h fun x ρ1 F1 H1 s1 r1 h1 => ?_))
  cases x with
  | true => exact iteT (h1 F1 H1 (.refl F1) r1)
  | false => exact iteF (hb ρ1 σ F1 Fr H1 Q r1 h1)
theorem t_w (h : SW Z a ta) : ST Z a ta := .mk fun ρ σ F Fr H Q rr q => Ct.of (PW.pt pw_C) (h ρ σ F Fr H Q rr q)
theorem t_not (ha : ST Z a ta) : ST Z (.UnaryOp .Not a pos) (mtNot ta) := by
  refine .mk ?_
  intro ρ σ F Fr H Q rr h
  exact Ct.of (pt_not pt_C) (ha ρ σ F Fr H _ rr (use_T h fun x ρ1 F1 H1 s1 r1 h1 => h1 F1 H1 (.refl F1) r1))
/-- a if t else b -/
def mIfE (t : MT) (a b : M) : M := fun ρ => Res.bind (t ρ) fun x ρ1 => if x = true then a ρ1 else b ρ1
theorem s_ife (hc : ST Z c ta) (ha : SE Z a ma) (hb : SE Z b mb) : SE Z (.IfExp c a b pos) (mIfE ta ma mb) := by
  refine .mk ?_
  intro ρ σ F Fr H Q rr h
  refine Ce.of (pe_ifExp pt_C pe_C pe_C) (hc ρ σ F Fr H _ rr ?_)
  simp only [mIfE] at h
  cases e : ta ρ with
  | none => rw [e] at h; exact h
  | some o => cases o with
    | ex c ρ1 => rw [e] at h; exact h
    | ok x ρ1 =>
      rw [e] at h
      intro F' H' s' r'
      cases x with
      | true => exact iteT (ha ρ1 σ F' Fr H' Q r' (PostE.le s' h))
      | false => exact iteF (hb ρ1 σ F' Fr H' Q r' (PostE.le s' h))
/-- a < b < c -/
def mChain (f g : D → D → Option RV) (a b c : M) : M := fun ρ => Res.bind (a ρ) fun x ρ1 => Res.bind (b ρ1) fun y ρ2 =>
  match rd ρ2 x, rd ρ2 y with
  | some p, some q => match f p q with
    | some (.val (.bool true)) => Res.bind (c ρ2) fun w ρ3 => match rd ρ3 y, rd ρ3 w with
      | some q', some r => (g q' r).map fun z => .ok z ρ3
      | _, _ => none
    | some (.val (.bool false)) => some (.ok (.val (.bool false)) ρ2)
    | _ => none
  | _, _ => none
end
end Pi
set_option maxRecDepth 100000
set_option maxHeartbeats 1000000
namespace Pi
open PySem PySem.Spec PyProof.Rows L2
open Builtin
theorem slot_type_ne : PySem.Slot "type" (cmpInfo .NotEq).2.1 "object.__ne__" :=
  .of (owner := "object") (n := "__ne__") (by rw [typeLookup_type, builtinLookup_eq_fast]; kernel_rfl) (by decide +kernel) (by decide +kernel) (by decide +kernel)
    (by first | exact .inl (by decide +kernel) | exact .inr (by decide +kernel)) (by rw [isSubtype_type]; kernel_rfl)
theorem slot_type_ne' : PySem.Slot "type" (cmpInfo .NotEq).2.2 "object.__ne__" := slot_type_ne
section
variable {prog : Program} {w : World} {A : Around} {E : Value → Shared → Prop} {s : Shared}
theorem ne_same_run {X : String} {Q : Value → Shared → Prop} (hX : ∀ s' : Shared, s'.TypeIs (.type X) "type") (hu : A.units + 1 < cLine) (h : Q (.bool false) s) : wpAny (model prog w) A (call (.builtin "object.__ne__") [.type X, .type X]) Q E s := by
  refine wpAny_call_entry slot_type_ne (hX s) PySem.F.entry_object_ne ?_ (PySem.F.args_object_ne_2 _ _)
  unfold Builtin.«object.__ne__»
  have hu' : A.in1.units < cLine := hu
  have hs : PySem.Slot "type" "__eq__" "object.__eq__" := TypeEq.slot_type_eq
  repeat (first | with_reducible refine wpAny_cRoomFor hu' ?_ | with_reducible refine wpAny_callSpecialIfBound?_slot (hX _) hs (call_gives TypeEq.slot_type_eq (hX _) PySem.F.entry_object_eq (PySem.F.args_object_eq_2 _ _) (TypeEq.object_eq_same rfl (by simp)) ?_) | wp_step)
  show wpAny _ _ (truthy (.bool true) >>= fun t => ret (.bool (!t))) _ _ _
  refine wpAny_bind (wpAny_truthy_bool ?_)
  show wpAny _ _ (ret (.bool false)) _ _ _
  repeat wp_step
  exact ⟨_, rfl, h⟩
theorem ne_other_run {X Y : String} {Q : Value → Shared → Prop} (hX : ∀ s' : Shared, s'.TypeIs (.type X) "type") (hne : (Value.type X == Value.type Y) = false) (hu : A.units + 1 < cLine) (h : Q .notImplemented s) : wpAny (model prog w) A (call (.builtin "object.__ne__") [.type X, .type Y]) Q E s := by
  refine wpAny_call_entry slot_type_ne (hX s) PySem.F.entry_object_ne ?_ (PySem.F.args_object_ne_2 _ _)
  unfold Builtin.«object.__ne__»
  have hu' : A.in1.units < cLine := hu
  have hs : PySem.Slot "type" "__eq__" "object.__eq__" := TypeEq.slot_type_eq
  repeat (first | with_reducible refine wpAny_cRoomFor hu' ?_ | with_reducible refine wpAny_callSpecialIfBound?_slot (hX _) hs (call_gives TypeEq.slot_type_eq (hX _) PySem.F.entry_object_eq (PySem.F.args_object_eq_2 _ _) (TypeEq.object_eq_other rfl hne) ?_) | wp_step)
  show wpAny _ _ (ret .notImplemented) _ _ _
  repeat wp_step
  exact ⟨_, rfl, h⟩

theorem ne_types {a b : String} {Q : Value → Shared → Prop} (ha : ∀ s' : Shared, s'.TypeIs (.type a) "type") (hb : ∀ s' : Shared, s'.TypeIs (.type b) "type") (hu : A.units + 1 < cLine) (h : Q (.bool (!decide (a = b))) s) :
    wpAny (model prog w) A (compareOp .NotEq (.type a) (.type b)) Q E s := by
  show wpAny _ A (richCompare .NotEq _ _) Q E s
  by_cases e : a = b
  · subst e
    rw [decide_eq_true rfl] at h
    exact wpAny_richCompare_same (T := "type") (ha s) (ha s) slot_type_ne (ne_same_run ha hu ⟨(by intro e; cases e), h⟩)
  · rw [decide_eq_false e] at h
    have hne : (Value.type a == Value.type b) = false := beq_eq_false_iff_ne.mpr fun z => e (Value.type.inj z)
    have hne' : (Value.type b == Value.type a) = false := beq_eq_false_iff_ne.mpr fun z => e (Value.type.inj z).symm
    have i1 : PySem.Slot "type" "__ne__" "object.__ne__" := slot_type_ne
    rcases hi : cmpInfo CmpOp.NotEq with ⟨sym, f, r⟩
    have h1 := slot_type_ne
    rw [hi] at h1
    have h2 : PySem.Slot "type" r "object.__ne__" := by
      have := slot_type_ne'
      rw [hi] at this
      exact this
    simp only [richCompare, hi, (ha s).oneThing_none]
    try with_reducible refine wpAny_holding ?_
    refine wpAny_bind (wpAny_cRoomFor_or (.inl rfl) ?_)
    refine wpAny_bind (wpAny_typeOf (ha s) (wpAny_bind (wpAny_typeOf (hb s) ?_)))
    simp only [bne_self_eq_false, Bool.false_eq_true, if_false, pure_bind, Bool.not_false, if_true]
    refine wpAny_bind (m := tryCompare (.type a) _ (.type b)) (wpAny_tryCompare_declines (ha s) h1 (ne_other_run ha hne hu ⟨rfl, ?_⟩))
    refine wpAny_bind (m := tryCompare (.type b) _ (.type a)) (wpAny_tryCompare_declines (hb s) h2 (ne_other_run hb hne' hu ⟨rfl, ?_⟩))
    refine wpAny_bind (wpAny_rule (wpAny_bind (wpAny_of_eq (isSame_plain rfl) (wpAny_pure ?_))))
    rw [hne]
    exact h
end
end Pi
set_option maxRecDepth 100000
set_option maxHeartbeats 1000000
namespace Pi
open PySem PySem.Spec PyProof.Rows L2

/-! ### argument lists, by value or by slot -/
def mNilA : MA := fun ρ => some (.ok [] ρ)
/-- one more, kept by value -/
def mConsV (a : M) (r : MA) : MA := fun ρ => Res.bind (a ρ) fun x ρ1 => match esc ρ1 x with
  | some (d, ρ2) => Res.bind (r ρ2) fun l ρ3 => some (.ok (.val d :: l) ρ3)
  | none => none
/-- one more, lent: a changeable object at a slot -/
def mConsR (i : Nat) (r : MA) : MA := fun ρ => match ρ[i]? with
  | some (.own _ _) => Res.bind (r ρ) fun l ρ3 => some (.ok (.ref i :: l) ρ3)
  | _ => none
theorem AVRel.le {K : PySem.W.Frag} {F F' : Hp} {σ : L2.St} {v : V} {x : AV} (s : Same F F') (h : AVRel K F σ v x) : AVRel K F' σ v x := by
  cases x with
  | val d => exact Rp.le (.of s) h
  | ref i => exact h
section
variable {Z : Zx} {e : Expr} {es : List Expr} {m : M} {mr : MA} {pos : Pos}
theorem a_nil : SA Z [] mNilA := .mk fun ρ σ F Fr H Q rr h => Ca.of pa_nil (h F H [] (.refl F) rr .nil)
theorem a_val (ha : SE Z e m) (hr : SA Z es mr) (hs : starEach (e :: es) Z.X.env = (false, eval e Z.X.env) :: starEach es Z.X.env := by kernel_rfl) : SA Z (e :: es) (mConsV m mr) := by
  refine .mk ?_
  intro ρ σ F Fr H Q rr h
  refine Ca.of (pa_cons pe_C pa_C hs) ?_
  simp only [mConsV] at h
  refine ha ρ σ F Fr H _ rr ?_
  cases e1 : m ρ with
  | none => rw [e1] at h; exact h
  | some o => cases o with
    | ex c ρ1 => rw [e1] at h; exact h
    | ok x ρ1 =>
      rw [e1] at h
      simp only [Res.bind] at h
      intro F1 H1 v s1 r1 q1
      split at h
      · rename_i d ρ2 e2
        obtain ⟨F2, s2, r2, rp⟩ := r1.esc q1 e2
        refine hr ρ2 σ F2 Fr H1 _ r2 ?_
        cases e3 : mr ρ2 with
        | none => rw [e3] at h; exact h
        | some o => cases o with
          | ex c ρ3 => rw [e3] at h; exact fun F' H' s' r' => h F' H' ((s1.trans s2).trans s') r'
          | ok l ρ3 =>
            rw [e3] at h
            intro F3 H3 vs s3 r3 q3
            exact h F3 H3 (v :: vs) ((s1.trans s2).trans s3) r3 (.cons (rp.le (.of s3)) q3)
      · exact h.elim
theorem a_ref (i : Nat) {x : Str} {p : Pos} (hr : SA Z es mr) (hN : Z.X.N[i]? = some x := by kernel_rfl) (hv : Vis Z.X.env.scope x := by exact vis_k) (hd : (x == ("__debug__" : Str)) = false := by kernel_rfl)
    (hcd : (x == ("__classdict__" : Str)) = false := by kernel_rfl) (hs : starEach (.Name x p :: es) Z.X.env = (false, eval (.Name x p) Z.X.env) :: starEach es Z.X.env := by kernel_rfl) : SA Z (.Name x p :: es) (mConsR i mr) := by
  refine .mk ?_
  intro ρ σ F Fr H Q rr h
  refine Ca.of (pa_cons (pe_var hN hv hd hcd) pa_C hs) ?_
  simp only [mConsR] at h
  split at h
  · rename_i d b hi
    obtain ⟨a, h1, _⟩ := rr.own i d b hi
    refine ⟨_, h1, hr ρ σ F Fr H _ rr ?_⟩
    cases e3 : mr ρ with
    | none => rw [e3] at h; exact h
    | some o => cases o with
      | ex c ρ3 => rw [e3] at h; exact h
      | ok l ρ3 =>
        rw [e3] at h
        intro F3 H3 vs s3 r3 q3
        exact h F3 H3 (_ :: vs) s3 r3 (.cons h1 q3)
  · exact h.elim

/-! ### tuples and lists written out -/
def valsA : List AV → Option (List D)
  | [] => some []
  | .val d :: r => (valsA r).map (d :: ·)
  | .ref _ :: _ => none
theorem valsA_rp {K : PySem.W.Frag} {F : Hp} {σ : L2.St} : ∀ {vs : List V} {l : List AV} {ds : List D}, Paired (AVRel K F σ) vs l → valsA l = some ds → RpAll K F vs ds
  | _, _, _, .nil, e => by cases e; exact .nil
  | _, .val d :: r, ds, .cons h t, e => by
    simp only [valsA] at e
    cases e2 : valsA r with
    | none => rw [e2] at e; cases e
    | some es => rw [e2] at e; cases e; exact .cons h (valsA_rp t e2)
  | _, .ref _ :: r, _, .cons h t, e => by cases e
def mTup (a : MA) : M := fun ρ => Res.bind (a ρ) fun l ρ1 => match valsA l with
  | some ds => if ds.length ≤ big then some (.ok (.val (.tuple ds)) ρ1) else none
  | none => none
def mLst (a : MA) : M := fun ρ => Res.bind (a ρ) fun l ρ1 => match valsA l with
  | some ds => if ds.length ≤ big then some (.ok (.own (.list ds)) ρ1) else none
  | none => none
theorem s_tup {x1 : Nat} (ha : SA Z es mr) : SE Z (.Tuple es x1 pos) (mTup mr) := by
  refine .mk ?_
  intro ρ σ F Fr H Q rr h
  refine Ce.of (pe_tup pa_C) (ha ρ σ F Fr H _ rr ?_)
  simp only [mTup] at h
  cases e3 : mr ρ with
  | none => rw [e3] at h; exact h
  | some o => cases o with
    | ex c ρ3 => rw [e3] at h; exact h
    | ok l ρ3 =>
      rw [e3] at h
      simp only [Res.bind] at h
      intro F1 H1 vs s1 r1 q1
      split at h
      · rename_i ds hd
        split at h
        · rename_i hl
          have rp := valsA_rp q1 hd
          refine ⟨by rw [rp.length]; exact Nat.le_trans hl big_line, fun p hp => ?_⟩
          obtain ⟨r2, s2⟩ := r1.new (o := .tup vs) hp
          exact h _ _ _ (s1.trans s2) r2 (.tup (.inl (.inl upd_same)) (rp.le (.of s2)))
        · exact h.elim
      · exact h.elim
theorem s_lst (ha : SA Z es mr) : SE Z (.List es pos) (mLst mr) := by
  refine .mk ?_
  intro ρ σ F Fr H Q rr h
  refine Ce.of (pe_lst pa_C) (ha ρ σ F Fr H _ rr ?_)
  simp only [mLst] at h
  cases e3 : mr ρ with
  | none => rw [e3] at h; exact h
  | some o => cases o with
    | ex c ρ3 => rw [e3] at h; exact h
    | ok l ρ3 =>
      rw [e3] at h
      simp only [Res.bind] at h
      intro F1 H1 vs s1 r1 q1
      split at h
      · rename_i ds hd
        split at h
        · rename_i hl
          have rp := valsA_rp q1 hd
          refine ⟨by rw [rp.length]; exact Nat.le_trans hl big_line, fun p hp => ?_⟩
          obtain ⟨f1, f2⟩ := r1.fnone hp
          exact h F1 _ _ s1 (r1.newOwn hp) ⟨p, rfl, f1, f2, ⟨_, upd_same, rp⟩, r1.slotne hp⟩
        · exact h.elim
      · exact h.elim
def mDct0 : M := fun ρ => some (.ok (.own (.dict [])) ρ)
theorem s_dct0 : SE Z (.Dict [] [] pos) mDct0 := by
  refine .mk ?_
  intro ρ σ F Fr H Q rr h
  refine Ce.of pe_dnewK fun p hp => ?_
  obtain ⟨f1, f2⟩ := rr.fnone hp
  exact h F _ _ (.refl F) (rr.newOwn hp) ⟨p, rfl, f1, f2, ⟨_, upd_same, .nil⟩, rr.slotne hp⟩
end

/-! ### a slice -/
abbrev MO := Env → Option (Res (Option Int))
def mON : MO := fun ρ => some (.ok none ρ)
def mOS (m : M) : MO := fun ρ => Res.bind (m ρ) fun x ρ1 => match rd ρ1 x with
  | some (.int i) => some (.ok (some i) ρ1)
  | _ => none
def Co (X : Cx) (e : Option Expr) : TO := fun σ H Q => ∀ pins s, Inv X pins σ H s → wpAny (model X.prog X.w) X.A (evalPart e X.env) (fun u s' => ∃ o H', Inv X pins σ H' s' ∧ IsPart u o ∧ Q o H') X.xe s
theorem po_C {X : Cx} {e : Option Expr} : PO X e (Co X e) := ⟨fun pins s σ H Q I h => h pins s I⟩
theorem Co.of {X : Cx} {e : Option Expr} {t : TO} (h : PO X e t) {σ : L2.St} {H : Hp} {Q : Option Int → Hp → Prop} (q : t σ H Q) : Co X e σ H Q := fun pins s I => h.run pins s σ H Q I q
def PostO (Z : Zx) (σ : L2.St) (F Fr : Hp) (Q : Option Int → Hp → Prop) : Option (Res (Option Int)) → Prop
  | none => False
  | some (.ok r ρ') => ∀ F' H', Same F F' → Rel Z.X.K Z.B ρ' F' Fr H' σ → Q r H'
  | some (.ex c ρ') => ∀ F' H', Same F F' → Rel Z.X.K Z.B ρ' F' Fr H' σ → Z.W (Z.cls c) none σ H'
theorem PostO.le {Z : Zx} {σ : L2.St} {F F1 Fr : Hp} {Q : Option Int → Hp → Prop} {o : Option (Res (Option Int))} (s : Same F F1) (h : PostO Z σ F Fr Q o) : PostO Z σ F1 Fr Q o := by
  cases o with
  | none => exact h
  | some r => cases r with
    | ok a ρ => exact fun F' H' s' => h F' H' (s.trans s')
    | ex c ρ => exact fun F' H' s' => h F' H' (s.trans s')
structure SO (Z : Zx) (e : Option Expr) (m : MO) : Prop where
  run : ∀ ρ σ F Fr H Q, Rel Z.X.K Z.B ρ F Fr H σ → PostO Z σ F Fr Q (m ρ) → Co Z.X e σ H Q
instance {Z : Zx} {e : Option Expr} {m : MO} : CoeFun (SO Z e m) fun _ => (∀ ρ σ F Fr H Q, Rel Z.X.K Z.B ρ F Fr H σ → PostO Z σ F Fr Q (m ρ) → Co Z.X e σ H Q) := ⟨SO.run⟩
def cutD (xs : List D) (lo hi : Option Int) : List D := (xs.drop (HT.sIx xs.length 0 lo)).take (HT.sIx xs.length xs.length hi - HT.sIx xs.length 0 lo)
theorem cut_rp {K : PySem.W.Frag} {F : Hp} {vs : List V} {ds : List D} (h : RpAll K F vs ds) (lo hi : Option Int) : RpAll K F (cutV vs lo hi) (cutD ds lo hi) := by
  unfold cutV cutD
  rw [h.length]
  exact (h.drop _).take _
theorem cut_whole {α : Type} (xs : List α) (a b : Nat) (h : a = 0 ∧ b = xs.length) : (xs.drop a).take (b - a) = xs := by
  obtain ⟨rfl, rfl⟩ := h
  simp
def fSl (x : D) (lo hi : Option Int) : Option RV := match x with
  | .list ds => some (.own (.list (cutD ds lo hi)))
  | .tuple ds => some (.val (.tuple (cutD ds lo hi)))
  | _ => none
def mSl (a : M) (lo hi : MO) : M := fun ρ => Res.bind (a ρ) fun x ρ1 => Res.bind (lo ρ1) fun l ρ2 => Res.bind (hi ρ2) fun u ρ3 => match rd ρ3 x with
  | some d => (fSl d l u).map fun r => .ok r ρ3
  | none => none
theorem sl_tupA {X : Cx} : SlR X (rSlA X.K) := by
  intro pins s σ H x v vl vu lo hi sl Q I rx hs pl pu q
  obtain ⟨a, xs, rfl, ht, q1, q2⟩ := q
  by_cases hw : HT.sIx xs.length 0 lo = 0 ∧ HT.sIx xs.length xs.length hi = xs.length
  · cases rx
    obtain ⟨its, r, p, hz⟩ := I.tuple ht
    have hle : its.toArray.size = xs.length := by rw [List.size_toArray, r.length]
    exact ⟨"tuple", _, PyProof.Rows.slot_tuple_getitem.lookup, p.typeIs, getItem_tuple_whole p hs pl pu (by rw [hle]; exact hw) ⟨.ref a, H, I, rfl, q1 hw⟩⟩
  · exact sl_tup pins s σ H _ v vl vu lo hi sl Q I rx hs pl pu ⟨a, xs, rfl, ht, hw, q2 hw⟩
section
variable {Z : Zx} {e : Expr} {m : M} {pos : Pos}
theorem o_none : SO Z none mON := .mk fun ρ σ F Fr H Q rr h => Co.of po_none (h F H (.refl F) rr)
theorem o_some (ha : SE Z e m) : SO Z (some e) (mOS m) := by
  refine .mk ?_
  intro ρ σ F Fr H Q rr h
  refine Co.of (po_some pe_C) ?_
  simp only [mOS] at h
  refine ha.use rr (fun x ρ1 e1 F1 H1 v1 s1 r1 q1 => ?_) (fun c ρ1 e1 F1 H1 s1 r1 => ?_) (fun e1 => ?_)
  · rw [e1] at h
    simp only [Res.bind] at h
    split at h
    · rename_i i ep
      exact ⟨i, (r1.rd (x := x.fz) q1 (by rw [rd_fz]; exact ep)).int, h F1 H1 s1 r1⟩
    · exact h.elim
  · rw [e1] at h; exact h F1 H1 s1 r1
  · rw [e1] at h; exact h
theorem s_sl {lo hi : Option Expr} {ml mh : MO} {p2 : Pos} (ha : SE Z e m) (hl : SO Z lo ml) (hh : SO Z hi mh) : SE Z (.Subscript e (.Slice lo hi none p2) pos) (mSl m ml mh) := by
  refine .mk ?_
  intro ρ σ F Fr H Q rr h
  refine Ce.of (pe_slice (sl_list.or sl_tupA) pe_C po_C po_C) ?_
  simp only [mSl] at h
  refine ha.use rr (fun x ρ1 e1 F1 H1 v1 s1 r1 q1 => ?_) (fun c ρ1 e1 F1 H1 s1 r1 => ?_) (fun e1 => ?_)
  · rw [e1] at h
    simp only [Res.bind] at h
    refine hl ρ1 σ F1 Fr H1 _ r1 ?_
    cases e2 : ml ρ1 with
    | none => rw [e2] at h; exact h
    | some o => cases o with
      | ex c ρ2 => rw [e2] at h; exact fun F' H' s' r' => h F' H' (s1.trans s') r'
      | ok l ρ2 =>
        rw [e2] at h
        simp only at h
        intro F2 H2 s2 r2
        refine hh ρ2 σ F2 Fr H2 _ r2 ?_
        cases e3 : mh ρ2 with
        | none => rw [e3] at h; exact h
        | some o => cases o with
          | ex c ρ3 => rw [e3] at h; exact fun F' H' s' r' => h F' H' ((s1.trans s2).trans s') r'
          | ok u ρ3 =>
            rw [e3] at h
            simp only at h
            intro F3 H3 s3 r3
            split at h
            · rename_i d hd
              have hx := r3.rd (x := x.fz) (RVRel.mv (s2.trans s3) q1) (by rw [rd_fz]; exact hd)
              cases d with
              | list ds =>
                obtain ⟨a, xs, rfl, h1, h2⟩ := hx.lst r3.fz
                refine .inl ⟨a, xs, rfl, h1, fun p hp => ?_⟩
                obtain ⟨f1, f2⟩ := r3.fnone hp
                exact h F3 _ _ ((s1.trans s2).trans s3) (r3.newOwn hp) ⟨p, rfl, f1, f2, ⟨_, upd_same, cut_rp h2 l u⟩, r3.slotne hp⟩
              | tuple ds =>
                obtain ⟨a, xs, rfl, h1, h2⟩ := hx.tup r3.fz
                refine .inr ⟨a, xs, rfl, h1, fun hw => ?_, fun hw p hp => ?_⟩
                · refine h F3 _ _ ((s1.trans s2).trans s3) r3 ?_
                  have e5 : cutD ds l u = ds := cut_whole ds _ _ (by rw [h2.length] at hw; exact hw)
                  show Rp _ _ _ _
                  rw [e5]
                  rcases hx with hx | ⟨_, _, hx⟩
                  · exact hx
                  · exact hx.elim
                · obtain ⟨r4, s4⟩ := r3.new (o := .tup (cutV xs l u)) hp
                  exact h _ _ _ (((s1.trans s2).trans s3).trans s4) r4 (.tup (.inl (.inl upd_same)) ((cut_rp h2 l u).le (.of s4)))
              | _ => exact h.elim
            · exact h.elim
  · rw [e1] at h; exact h F1 H1 s1 r1
  · rw [e1] at h; exact h
end

/-! ### a built-in with one argument -/
section
variable {Z : Zx} {a : Expr} {ma : M} {pos p : Pos}
/-- what a call of a built-in of one value must do -/
def CaS (Z : Zx) (r : List V → Hp → VK → Prop) (f : D → Option RV) : Prop := ∀ ρ σ F Fr H x q z (Q : VK), Rel Z.X.K Z.B ρ F Fr H σ → RpT Z.X.K F H x q → f q = some z →
  (∀ F' H' v, Same F F' → Rel Z.X.K Z.B ρ F' Fr H' σ → RVRel Z.X.K ρ F' Fr H' σ v z → Q v H') → r [x] H Q
theorem s_b1 {x : Str} {id : String} {r : List V → Hp → VK → Prop} {f : D → Option RV} (hc : CallR Z.X (.builtin id) r) (o : CaS Z r f) (hg : Gl Z.X x) (hm : Z.X.mg x = none) (hv : bootBuiltins x = some (.builtin id)) (ha : SE Z a ma)
    (hn : x ≠ "__name__" := by decide) (hdb : (x == ("__debug__" : Str)) = false := by kernel_rfl) (he : starEach [a] Z.X.env = [(false, eval a Z.X.env)] := by kernel_rfl) : SE Z (.Call (.Name x p) [a] [] pos) (mUn f ma) := by
  refine .mk ?_
  intro ρ σ F Fr H Q rr h
  refine Ce.of (pe_callB hc hg hm hv (pa_cons pe_C pa_nil he) hn hdb he rfl) ?_
  exact un_run (r := fun x H Q => r [x] H Q) ha (fun ρ σ F Fr H x p z Q rr hx e k => o ρ σ F Fr H x p z Q rr hx e k) rr h
theorem s_ty1 {x : Str} {T : String} {r : List V → Hp → VK → Prop} {f : D → Option RV} (hc : CallR Z.X (.type T) r) (o : CaS Z r f) (hg : Gl Z.X x) (hm : Z.X.mg x = none) (hv : bootBuiltins x = some (.type T)) (ha : SE Z a ma)
    (hn : x ≠ "__name__" := by decide) (hdb : (x == ("__debug__" : Str)) = false := by kernel_rfl) (he : starEach [a] Z.X.env = [(false, eval a Z.X.env)] := by kernel_rfl) : SE Z (.Call (.Name x p) [a] [] pos) (mUn f ma) := by
  refine .mk ?_
  intro ρ σ F Fr H Q rr h
  refine Ce.of (pe_callTy hc hg hm hv (pa_cons pe_C pa_nil he) hn hdb he rfl) ?_
  exact un_run (r := fun x H Q => r [x] H Q) ha (fun ρ σ F Fr H x p z Q rr hx e k => o ρ σ F Fr H x p z Q rr hx e k) rr h
/-- len -/
def fLen : D → Option RV
  | .list ds => some (.val (.int ds.length))
  | .tuple ds => some (.val (.int ds.length))
  | .str x => if x.length ≤ big then some (.val (.int x.length)) else none
  | _ => none
theorem cs_len : CaS Z (fun xs H Q => ∃ x n, xs = [x] ∧ LenV Z.X.K x H n ∧ Q (.int n) H) fLen := by
  intro ρ σ F Fr H x q z Q r hx e k
  cases q with
  | list ds =>
    cases e
    obtain ⟨a, xs, rfl, h1, h2⟩ := hx.lst r.fz
    exact ⟨_, ds.length, rfl, .inl ⟨xs, h1, by rw [h2.length]⟩, k F H _ (.refl F) r (.int _)⟩
  | tuple ds =>
    cases e
    obtain ⟨a, xs, rfl, h1, h2⟩ := hx.tup r.fz
    exact ⟨_, ds.length, rfl, .inr ⟨xs, h1, by rw [h2.length]⟩, k F H _ (.refl F) r (.int _)⟩
  | str y =>
    simp only [fLen] at e
    split at e
    · rename_i hl
      cases e
      have e1 := hx.str
      subst e1
      exact ⟨_, y.length, rfl, ⟨Nat.le_trans hl big_line, rfl⟩, k F H _ (.refl F) r (.int _)⟩
    · cases e
  | _ => cases e
theorem s_len (hg : Gl Z.X "len") (hm : Z.X.mg "len" = none) (ha : SE Z a ma) (he : starEach [a] Z.X.env = [(false, eval a Z.X.env)] := by kernel_rfl) : SE Z (.Call (.Name "len" p) [a] [] pos) (mUn fLen ma) :=
  s_b1 call_len cs_len hg hm PySem.boot_len ha (he := he)
/-- tuple(x), list(x) -/
def fTuple : D → Option RV
  | .list ds => some (.val (.tuple ds))
  | .tuple ds => some (.val (.tuple ds))
  | _ => none
theorem RpT.fixT {K : PySem.W.Frag} {F H : Hp} {v : V} {ds : List D} (h : RpT K F H v (.tuple ds)) : Rp K F v (.tuple ds) := by
  rcases h with h | ⟨_, _, h⟩
  · exact h
  · exact h.elim
theorem cs_tuple : CaS Z (fun xs H Q => ∃ p ys, xs = [.ref p] ∧ ((SqL Z.X.K H p ys ∧ ∀ l, H l = none → Q (.ref l) (upd H l (.tup ys))) ∨ (SqT Z.X.K H p ys ∧ Q (.ref p) H))) fTuple := by
  intro ρ σ F Fr H x q z Q r hx e k
  cases q with
  | list ds =>
    cases e
    obtain ⟨a, xs, rfl, h1, h2⟩ := hx.lst r.fz
    refine ⟨a, xs, rfl, .inl ⟨h1, fun l hl => ?_⟩⟩
    obtain ⟨r2, s2⟩ := r.new (o := .tup xs) hl
    exact k _ _ _ s2 r2 (.tup (.inl (.inl upd_same)) (h2.le (.of s2)))
  | tuple ds =>
    cases e
    obtain ⟨a, xs, rfl, h1, h2⟩ := hx.tup r.fz
    exact ⟨a, xs, rfl, .inr ⟨h1, k F H _ (.refl F) r hx.fixT⟩⟩
  | _ => cases e
theorem s_tuple (hg : Gl Z.X "tuple") (hm : Z.X.mg "tuple" = none) (ha : SE Z a ma) (he : starEach [a] Z.X.env = [(false, eval a Z.X.env)] := by kernel_rfl) : SE Z (.Call (.Name "tuple" p) [a] [] pos) (mUn fTuple ma) :=
  s_ty1 call_tuple_of cs_tuple hg hm (by decide +kernel) ha (he := he)
def fList : D → Option RV
  | .list ds => some (.own (.list ds))
  | .tuple ds => some (.own (.list ds))
  | _ => none
theorem cs_list : CaS Z (fun xs H Q => ∃ p ys, xs = [.ref p] ∧ (SqL Z.X.K H p ys ∨ SqT Z.X.K H p ys) ∧ ∀ l, H l = none → Q (.ref l) (upd H l (.lst ys))) fList := by
  intro ρ σ F Fr H x q z Q r hx e k
  have fin : ∀ ds, itemsD q = some ds → (∀ F' H' v, Same F F' → Rel Z.X.K Z.B ρ F' Fr H' σ → RVRel Z.X.K ρ F' Fr H' σ v (.own (.list ds)) → Q v H') → ∃ p ys, [x] = [.ref p] ∧ (SqL Z.X.K H p ys ∨ SqT Z.X.K H p ys) ∧ ∀ l, H l = none → Q (.ref l) (upd H l (.lst ys)) := fun ds hd k => by
    obtain ⟨a, xs, rfl, h1, h2⟩ := items_seq r.fz hx hd
    refine ⟨a, xs, rfl, h1, fun l hl => ?_⟩
    obtain ⟨f1, f2⟩ := r.fnone hl
    exact k F _ _ (.refl F) (r.newOwn hl) ⟨l, rfl, f1, f2, ⟨_, upd_same, h2⟩, r.slotne hl⟩
  cases q with
  | list ds => cases e; exact fin ds rfl k
  | tuple ds => cases e; exact fin ds rfl k
  | _ => cases e
theorem s_list (hg : Gl Z.X "list") (hm : Z.X.mg "list" = none) (ha : SE Z a ma) (he : starEach [a] Z.X.env = [(false, eval a Z.X.env)] := by kernel_rfl) : SE Z (.Call (.Name "list" p) [a] [] pos) (mUn fList ma) :=
  s_ty1 call_list_of cs_list hg hm (by decide +kernel) ha (he := he)
/-- int(n), int(flag) -/
def fInt : D → Option RV
  | .int i => some (.val (.int i))
  | .bool b => some (.val (.int (if b then 1 else 0)))
  | _ => none
theorem cs_int : CaS Z (fun xs H Q => (∃ i, xs = [.int i] ∧ Q (.int i) H) ∨ ∃ k, xs = [.bl k] ∧ Q (.int (if k then 1 else 0)) H) fInt := by
  intro ρ σ F Fr H x q z Q r hx e k
  cases q with
  | int i => cases e; have := hx.int; subst this; exact .inl ⟨i, rfl, k F H _ (.refl F) r (.int _)⟩
  | bool b => cases e; have := hx.bool; subst this; exact .inr ⟨b, rfl, k F H _ (.refl F) r (.int _)⟩
  | _ => cases e
theorem s_toInt (hg : Gl Z.X "int") (hm : Z.X.mg "int" = none) (ha : SE Z a ma) (he : starEach [a] Z.X.env = [(false, eval a Z.X.env)] := by kernel_rfl) : SE Z (.Call (.Name "int" p) [a] [] pos) (mUn fInt ma) :=
  s_ty1 call_int1 cs_int hg hm (by decide +kernel) ha (he := he)
end
end Pi
set_option maxRecDepth 100000
set_option maxHeartbeats 1000000
/-! sum, max, min, all of lists and tuples; type(x) != T; isinstance; str; comparisons in a chain -/
namespace Pi
open PySem PySem.Spec PyProof.Rows L2

section
variable {prog : Program} {w : World} {A : Around} {E : Value → Shared → Prop} {s : Shared} {l : Addr} {its : List Value} {ns : List Int} {Q : Value → Shared → Prop}
theorem tup_begin {xs : Array (Int × Tok)} (hl : s.heap.IsTuple l (intItems xs))
    (h : ∀ s2 : Shared, s2 = { s with heap := s.heap.push { cls := .type "tuple_iterator", data := .fields #[.ref l, .int 0 0] } } → l ≠ s.heap.objs.size →
      (s2.heap.IsTupleIter s.heap.objs.size l 0 ∧ s2.heap.IsTuple l (intItems xs)) → (∀ b ∈ [s.heap.objs.size, l], b < s2.heap.objs.size) →
      (∀ h' : Heap, (∀ b o, b ∉ [s.heap.objs.size] → s2.heap.get? b = some o → h'.get? b = some o) → ∀ b o, s.heap.get? b = some o → h'.get? b = some o) → Q (.ref s.heap.objs.size) s2) :
    wpAny (model prog w) A (pyIter (.ref l)) Q E s := by
  have lt : l < s.heap.objs.size := by
    obtain ⟨_, e, _⟩ := hl
    exact Heap.lt_size e
  refine wpAny_pyIter_tuple hl (h _ rfl (Nat.ne_of_lt lt) ⟨⟨_, Heap.get?_push_size _ rfl, rfl, rfl⟩, hl.push _⟩ (fun b hb => ?_) fun h' k b o e => ?_)
  · show b < (s.heap.push _).objs.size
    rw [Heap.size_push]
    simp only [List.mem_cons, List.not_mem_nil, or_false] at hb
    rcases hb with rfl | rfl
    · exact Nat.lt_succ_self _
    · exact Nat.lt_succ_of_lt lt
  · refine k b o (fun hm => ?_) (Heap.get?_push_of_some _ e)
    rw [List.mem_singleton] at hm
    subst hm
    exact absurd (Heap.lt_size e) (Nat.lt_irrefl _)
theorem sum_tup (hh : A.handled = none) (hl : s.heap.IsTuple l its.toArray) (hi : IntsAre its ns)
    (h : ∀ h' tk t', (∀ b o, s.heap.get? b = some o → h'.get? b = some o) → Q (.int ns.sum t') { s with heap := h', toks := tk }) : wpAny (model prog w) A (call (.builtin "sum") [.ref l]) Q E s := by
  obtain ⟨xs, e⟩ := hi.allInts.items
  have hn : numsOf (intItems xs).toList = ns := by rw [← e]; exact hi.numsOf
  rw [nums_intItems] at hn
  rw [e] at hl
  refine call_sum_walkG (tup_begin hl fun s2 e2 ne st hf old => ?_)
  subst e2
  refine ⟨_, _, _, _, _, _, numAt xs, rfl, Walks.tuple (A := A.in1) hh _ l ne (intItems xs), st, hf, (fun _ _ => intItems_at), fun h' tk t' k => ?_⟩
  have q := h h' tk t' (old h' k)
  rw [← hn] at q
  have e3 : preSum (numAt xs) (intItems xs).size = (List.map (fun x => x.fst) xs.toList).sum := by
    have e4 : (intItems xs).size = xs.size := by simp [intItems]
    rw [e4, preSum_eq, List.take_of_length_le (by simp)]
  rw [e3]
  exact q
theorem max_tup (hh : A.handled = none) (hl : s.heap.IsTuple l its.toArray) (hi : IntsAre its ns) (hne : 0 < ns.length)
    (h : ∀ h' tk M t', (∀ b o, s.heap.get? b = some o → h'.get? b = some o) → M ∈ ns → (∀ a, a ∈ ns → a ≤ M) → Q (.int M t') { s with heap := h', toks := tk }) : wpAny (model prog w) A (call (.builtin "max") [.ref l]) Q E s := by
  obtain ⟨xs, e⟩ := hi.allInts.items
  have hn : numsOf (intItems xs).toList = ns := by rw [← e]; exact hi.numsOf
  rw [nums_intItems] at hn
  subst hn
  rw [e] at hl
  have hsz : 0 < xs.size := by simpa using hne
  refine call_max_walk (tup_begin hl fun s2 e2 ne st hf old => ?_)
  subst e2
  refine ⟨_, _, _, _, _, _, _, rfl, Walks.tuple (A := A.in1) hh _ l ne (intItems xs), st, hf, by simpa [intItems] using hne, CmpOf.ints_gt (numAt xs) (fun _ _ => intItems_at), fun v h' tk hP k => ?_⟩
  have hP' : (intItems xs)[argBest (fun i j => decide (numAt xs i > numAt xs j)) (xs.size - 1)]? = some v := by simpa [intItems] using hP
  obtain ⟨t, rfl⟩ := intItems_at hP'
  obtain ⟨h1, h2⟩ := argBest_gt (numAt xs) (xs.size - 1)
  refine h h' tk _ t (old h' k) ?_ fun a ha => ?_
  · rw [numAt_eq]; exact PySem.getD_mem (by rw [List.length_map, Array.length_toList]; omega)
  · obtain ⟨j, hj, rfl⟩ := mem_getD ha
    rw [List.length_map, Array.length_toList] at hj
    have q := h2 j (by omega)
    rw [numAt_eq, numAt_eq] at q
    rw [numAt_eq]
    exact q
theorem min_tup (hh : A.handled = none) (hl : s.heap.IsTuple l its.toArray) (hi : IntsAre its ns) (hne : 0 < ns.length)
    (h : ∀ h' tk M t', (∀ b o, s.heap.get? b = some o → h'.get? b = some o) → M ∈ ns → (∀ a, a ∈ ns → M ≤ a) → Q (.int M t') { s with heap := h', toks := tk }) : wpAny (model prog w) A (call (.builtin "min") [.ref l]) Q E s := by
  obtain ⟨xs, e⟩ := hi.allInts.items
  have hn : numsOf (intItems xs).toList = ns := by rw [← e]; exact hi.numsOf
  rw [nums_intItems] at hn
  subst hn
  rw [e] at hl
  have hsz : 0 < xs.size := by simpa using hne
  refine call_min_walk (tup_begin hl fun s2 e2 ne st hf old => ?_)
  subst e2
  refine ⟨_, _, _, _, _, _, _, rfl, Walks.tuple (A := A.in1) hh _ l ne (intItems xs), st, hf, by simpa [intItems] using hne, CmpOf.ints_lt (numAt xs) (fun _ _ => intItems_at), fun v h' tk hP k => ?_⟩
  have hP' : (intItems xs)[argBest (fun i j => decide (numAt xs i < numAt xs j)) (xs.size - 1)]? = some v := by simpa [intItems] using hP
  obtain ⟨t, rfl⟩ := intItems_at hP'
  obtain ⟨h1, h2⟩ := argBest_lt (numAt xs) (xs.size - 1)
  refine h h' tk _ t (old h' k) ?_ fun a ha => ?_
  · rw [numAt_eq]; exact PySem.getD_mem (by rw [List.length_map, Array.length_toList]; omega)
  · obtain ⟨j, hj, rfl⟩ := mem_getD ha
    rw [List.length_map, Array.length_toList] at hj
    have q := h2 j (by omega)
    rw [numAt_eq, numAt_eq] at q
    rw [numAt_eq]
    exact q
end

/-! ### as rules over values -/
section
variable {X : Cx}
def rSumG (K : PySem.W.Frag) : List V → Hp → VK → Prop := fun vs H Q => ∃ (a : Addr) (ns : List Int), vs = [V.ref a] ∧ (SqL K H a (ns.map V.int) ∨ SqT K H a (ns.map V.int)) ∧ Q (.int ns.sum) H
theorem cr_sumG (hc : X.calm = true) : CallR X (.builtin "sum") (rSumG X.K) := by
  intro pins s σ H vs us Q I r h
  obtain ⟨a, ns, rfl, hs | hs, q⟩ := h
  · exact cr_sum hc pins s σ H _ us Q I r ⟨a, ns, rfl, hs, q⟩
  · obtain ⟨its, rv, hl, _⟩ := I.tuple hs
    rw [Vals.ref1 r]
    exact sum_tup (I.ok.hd hc) hl rv.ints fun h' tk t' hk => ⟨.int _, H, I.kept hk, ⟨_, rfl⟩, q⟩
def rMaxG (K : PySem.W.Frag) : List V → Hp → VK → Prop := fun vs H Q => ∃ (a : Addr) (ns : List Int), vs = [V.ref a] ∧ (SqL K H a (ns.map V.int) ∨ SqT K H a (ns.map V.int)) ∧ 0 < ns.length ∧ ∀ m, m ∈ ns → (∀ y, y ∈ ns → y ≤ m) → Q (.int m) H
def rMinG (K : PySem.W.Frag) : List V → Hp → VK → Prop := fun vs H Q => ∃ (a : Addr) (ns : List Int), vs = [V.ref a] ∧ (SqL K H a (ns.map V.int) ∨ SqT K H a (ns.map V.int)) ∧ 0 < ns.length ∧ ∀ m, m ∈ ns → (∀ y, y ∈ ns → m ≤ y) → Q (.int m) H
theorem cr_maxG (hc : X.calm = true) : CallR X (.builtin "max") (rMaxG X.K) := by
  intro pins s σ H vs us Q I r h
  obtain ⟨a, ns, rfl, hs | hs, hne, q⟩ := h
  · exact cr_max hc pins s σ H _ us Q I r ⟨a, ns, rfl, hs, hne, q⟩
  · obtain ⟨its, rv, hl, _⟩ := I.tuple hs
    rw [Vals.ref1 r]
    exact max_tup (I.ok.hd hc) hl rv.ints hne fun h' tk m t' hk h1 h2 => ⟨.int _, H, I.kept hk, ⟨_, rfl⟩, q m h1 h2⟩
theorem cr_minG (hc : X.calm = true) : CallR X (.builtin "min") (rMinG X.K) := by
  intro pins s σ H vs us Q I r h
  obtain ⟨a, ns, rfl, hs | hs, hne, q⟩ := h
  · exact cr_min hc pins s σ H _ us Q I r ⟨a, ns, rfl, hs, hne, q⟩
  · obtain ⟨its, rv, hl, _⟩ := I.tuple hs
    rw [Vals.ref1 r]
    exact min_tup (I.ok.hd hc) hl rv.ints hne fun h' tk m t' hk h1 h2 => ⟨.int _, H, I.kept hk, ⟨_, rfl⟩, q m h1 h2⟩
end
/-- all ints -/
def intsD : List D → Option (List Int)
  | [] => some []
  | .int i :: r => (intsD r).map (i :: ·)
  | _ :: _ => none
theorem intsD_rp {K : PySem.W.Frag} {F : Hp} : ∀ {vs : List V} {ds : List D} {ns : List Int}, RpAll K F vs ds → intsD ds = some ns → vs = ns.map V.int
  | _, _, _, .nil, e => by cases e; rfl
  | _, d :: ds, ns, .cons h r, e => by
    cases d with
    | int i =>
      simp only [intsD] at e
      cases e2 : intsD ds with
      | none => rw [e2] at e; cases e
      | some ms =>
        rw [e2] at e
        cases e
        cases h
        rw [intsD_rp r e2]; rfl
    | _ => cases e
def boolsD : List D → Option (List Bool)
  | [] => some []
  | .bool i :: r => (boolsD r).map (i :: ·)
  | _ :: _ => none
theorem boolsD_rp {K : PySem.W.Frag} {F : Hp} : ∀ {vs : List V} {ds : List D} {ns : List Bool}, RpAll K F vs ds → boolsD ds = some ns → vs = ns.map V.bl
  | _, _, _, .nil, e => by cases e; rfl
  | _, d :: ds, ns, .cons h r, e => by
    cases d with
    | bool i =>
      simp only [boolsD] at e
      cases e2 : boolsD ds with
      | none => rw [e2] at e; cases e
      | some ms =>
        rw [e2] at e
        cases e
        cases h
        rw [boolsD_rp r e2]; rfl
    | _ => cases e
def best (f : Int → Int → Bool) : List Int → Option Int
  | [] => none
  | x :: r => some (r.foldl (fun m y => if f y m then y else m) x)
def maxI : List Int → Option Int := best fun y m => decide (m < y)
def minI : List Int → Option Int := best fun y m => decide (y < m)
theorem maxI_spec : ∀ {ns : List Int} {m : Int}, maxI ns = some m → m ∈ ns ∧ ∀ y ∈ ns, y ≤ m := by
  intro ns
  cases ns with
  | nil => intro m e; cases e
  | cons x r =>
    intro m e
    have e : r.foldl (fun m y => if decide (m < y) = true then y else m) x = m := Option.some.inj e
    have key : ∀ (r : List Int) (x : Int), r.foldl (fun m y => if decide (m < y) = true then y else m) x ∈ x :: r ∧ ∀ y ∈ x :: r, y ≤ r.foldl (fun m y => if decide (m < y) = true then y else m) x := by
      intro r
      induction r with
      | nil => intro x; simp
      | cons z r ih =>
        intro x
        rw [List.foldl_cons]
        by_cases h : x < z
        · rw [if_pos (decide_eq_true h)]
          obtain ⟨a, b⟩ := ih z
          refine ⟨List.mem_cons_of_mem _ a, fun y hy => ?_⟩
          rcases List.mem_cons.mp hy with rfl | hy
          · exact Int.le_trans (Int.le_of_lt h) (b z List.mem_cons_self)
          · exact b y hy
        · rw [if_neg (by simpa using h)]
          obtain ⟨a, b⟩ := ih x
          refine ⟨?_, fun y hy => ?_⟩
          · rcases List.mem_cons.mp a with a | a
            · rw [a]; exact List.mem_cons_self
            · exact List.mem_cons_of_mem _ (List.mem_cons_of_mem _ a)
          · rcases List.mem_cons.mp hy with rfl | hy
            · exact b _ List.mem_cons_self
            · rcases List.mem_cons.mp hy with rfl | hy
              · exact Int.le_trans (by omega) (b x List.mem_cons_self)
              · exact b y (List.mem_cons_of_mem _ hy)
    rw [← e]
    exact key r x
theorem minI_spec : ∀ {ns : List Int} {m : Int}, minI ns = some m → m ∈ ns ∧ ∀ y ∈ ns, m ≤ y := by
  intro ns
  cases ns with
  | nil => intro m e; cases e
  | cons x r =>
    intro m e
    have e : r.foldl (fun m y => if decide (y < m) = true then y else m) x = m := Option.some.inj e
    have key : ∀ (r : List Int) (x : Int), r.foldl (fun m y => if decide (y < m) = true then y else m) x ∈ x :: r ∧ ∀ y ∈ x :: r, r.foldl (fun m y => if decide (y < m) = true then y else m) x ≤ y := by
      intro r
      induction r with
      | nil => intro x; simp
      | cons z r ih =>
        intro x
        rw [List.foldl_cons]
        by_cases h : z < x
        · rw [if_pos (decide_eq_true h)]
          obtain ⟨a, b⟩ := ih z
          refine ⟨List.mem_cons_of_mem _ a, fun y hy => ?_⟩
          rcases List.mem_cons.mp hy with rfl | hy
          · exact Int.le_trans (b z List.mem_cons_self) (Int.le_of_lt h)
          · exact b y hy
        · rw [if_neg (by simpa using h)]
          obtain ⟨a, b⟩ := ih x
          refine ⟨?_, fun y hy => ?_⟩
          · rcases List.mem_cons.mp a with a | a
            · rw [a]; exact List.mem_cons_self
            · exact List.mem_cons_of_mem _ (List.mem_cons_of_mem _ a)
          · rcases List.mem_cons.mp hy with rfl | hy
            · exact b _ List.mem_cons_self
            · rcases List.mem_cons.mp hy with rfl | hy
              · exact Int.le_trans (b x List.mem_cons_self) (by omega)
              · exact b y (List.mem_cons_of_mem _ hy)
    rw [← e]
    exact key r x
section
variable {Z : Zx} {a b c : Expr} {ma mb mc : M} {pos p : Pos}
def fInts (f : List Int → Option Int) (x : D) : Option RV := ((itemsD x).bind intsD).bind fun ns => (f ns).map fun i => .val (.int i)
theorem ints_seq {K : PySem.W.Frag} {F H : Hp} {v : V} {d : D} {ns : List Int} (s : Same F H) (h : RpT K F H v d) (e : (itemsD d).bind intsD = some ns) : ∃ p, v = .ref p ∧ (SqL K H p (ns.map V.int) ∨ SqT K H p (ns.map V.int)) := by
  cases ei : itemsD d with
  | none => rw [ei] at e; cases e
  | some ds =>
    rw [ei] at e
    obtain ⟨p, xs, e1, e2, e3⟩ := items_seq s h ei
    have := intsD_rp e3 e
    subst this
    exact ⟨p, e1, e2⟩
def fSum : D → Option RV := fInts fun ns => some ns.sum
def fMax : D → Option RV := fInts maxI
def fMin : D → Option RV := fInts minI
theorem cs_sum : CaS Z (rSumG Z.X.K) fSum := by
  intro ρ σ F Fr H x q z Q r hx e k
  unfold fSum fInts at e
  cases ei : (itemsD q).bind intsD with
  | none => rw [ei] at e; cases e
  | some ns =>
    rw [ei] at e
    cases e
    obtain ⟨p, rfl, h⟩ := ints_seq r.fz hx ei
    exact ⟨p, ns, rfl, h, k F H _ (.refl F) r (.int _)⟩
theorem cs_max : CaS Z (rMaxG Z.X.K) fMax := by
  intro ρ σ F Fr H x q z Q r hx e k
  unfold fMax fInts at e
  cases ei : (itemsD q).bind intsD with
  | none => rw [ei] at e; cases e
  | some ns =>
    rw [ei] at e
    cases em : maxI ns with
    | none =>
      have e : Option.map (fun i => RV.val (.int i)) (maxI ns) = some z := e
      rw [em] at e; cases e
    | some m =>
      have e : Option.map (fun i => RV.val (.int i)) (maxI ns) = some z := e
      rw [em] at e; cases e
      obtain ⟨p, rfl, h⟩ := ints_seq r.fz hx ei
      obtain ⟨h1, h2⟩ := maxI_spec em
      refine ⟨p, ns, rfl, h, List.length_pos_of_mem h1, fun m' h3 h4 => ?_⟩
      have : m' = m := Int.le_antisymm (h2 _ h3) (h4 _ h1)
      subst this
      exact k F H _ (.refl F) r (.int _)
theorem cs_min : CaS Z (rMinG Z.X.K) fMin := by
  intro ρ σ F Fr H x q z Q r hx e k
  unfold fMin fInts at e
  cases ei : (itemsD q).bind intsD with
  | none => rw [ei] at e; cases e
  | some ns =>
    rw [ei] at e
    cases em : minI ns with
    | none =>
      have e : Option.map (fun i => RV.val (.int i)) (minI ns) = some z := e
      rw [em] at e; cases e
    | some m =>
      have e : Option.map (fun i => RV.val (.int i)) (minI ns) = some z := e
      rw [em] at e; cases e
      obtain ⟨p, rfl, h⟩ := ints_seq r.fz hx ei
      obtain ⟨h1, h2⟩ := minI_spec em
      refine ⟨p, ns, rfl, h, List.length_pos_of_mem h1, fun m' h3 h4 => ?_⟩
      have : m' = m := Int.le_antisymm (h4 _ h1) (h2 _ h3)
      subst this
      exact k F H _ (.refl F) r (.int _)
theorem s_sum (z : Z.Ok) (hg : Gl Z.X "sum") (hm : Z.X.mg "sum" = none) (ha : SE Z a ma) (he : starEach [a] Z.X.env = [(false, eval a Z.X.env)] := by kernel_rfl) : SE Z (.Call (.Name "sum" p) [a] [] pos) (mUn fSum ma) :=
  s_b1 (cr_sumG z.calm) cs_sum hg hm (by decide +kernel) ha (he := he)
theorem s_max (z : Z.Ok) (hg : Gl Z.X "max") (hm : Z.X.mg "max" = none) (ha : SE Z a ma) (he : starEach [a] Z.X.env = [(false, eval a Z.X.env)] := by kernel_rfl) : SE Z (.Call (.Name "max" p) [a] [] pos) (mUn fMax ma) :=
  s_b1 (cr_maxG z.calm) cs_max hg hm (by decide +kernel) ha (he := he)
theorem s_min (z : Z.Ok) (hg : Gl Z.X "min") (hm : Z.X.mg "min" = none) (ha : SE Z a ma) (he : starEach [a] Z.X.env = [(false, eval a Z.X.env)] := by kernel_rfl) : SE Z (.Call (.Name "min" p) [a] [] pos) (mUn fMin ma) :=
  s_b1 (cr_minG z.calm) cs_min hg hm (by decide +kernel) ha (he := he)
/-- all(xs), xs a list of truth values -/
def fAll : D → Option RV
  | .list ds => (boolsD ds).map fun bs => .val (.bool (bs.all id))
  | _ => none
theorem cs_all : CaS Z (rAll Z.X.K) fAll := by
  intro ρ σ F Fr H x q z Q r hx e k
  cases q with
  | list ds =>
    simp only [fAll] at e
    cases eb : boolsD ds with
    | none => rw [eb] at e; cases e
    | some bs =>
      rw [eb] at e
      cases e
      obtain ⟨a, xs, rfl, h1, h2⟩ := hx.lst r.fz
      have := boolsD_rp h2 eb
      subst this
      exact ⟨a, bs, rfl, h1, k F H _ (.refl F) r (.bl _)⟩
  | _ => cases e
end
end Pi
#check @L2.cr_all
set_option maxRecDepth 100000
set_option maxHeartbeats 1000000
/-! all; type(x) != T; isinstance; str; comparisons in a chain -/
namespace Pi
open PySem PySem.Spec PyProof.Rows L2
section
variable {Z : Zx} {a b c : Expr} {ma mb mc : M} {pos p q p2 : Pos}
theorem s_all (z : Z.Ok) (hg : Gl Z.X "all") (hm : Z.X.mg "all" = none) (ha : SE Z a ma) (he : starEach [a] Z.X.env = [(false, eval a Z.X.env)] := by kernel_rfl) : SE Z (.Call (.Name "all" p) [a] [] pos) (mUn fAll ma) :=
  s_b1 (cr_all z.calm) cs_all hg hm (by decide +kernel) ha (he := he)

/-! ### type(x) != T -/
def tyN : D → String
  | .none => "NoneType"
  | .bool _ => "bool"
  | .int _ => "int"
  | .str _ => "str"
  | .list _ => "list"
  | .tuple _ => "tuple"
  | .dict _ => "dict"
theorem ty_meta (d : D) : ∀ s' : Shared, s'.TypeIs (.type (tyN d)) "type" := by
  cases d
  · exact TypeEq.meta_NoneType
  · exact TypeEq.meta_bool
  · exact TypeEq.meta_int
  · exact TypeEq.meta_str
  · exact TypeEq.meta_list
  · exact TypeEq.meta_tuple
  · exact TypeEq.meta_dict
/-- a dict that is walked has no rule here -/
theorem tyB_of {K : PySem.W.Frag} {F H : Hp} {v : V} {d : D} (s : Same F H) (h : RpT K F H v d) (nd : (match d with | .dict _ => False | _ => True) ∨ ∃ a ks, v = .ref a ∧ H a = some (.dK ks)) : TyB K H v (tyN d) := by
  cases d with
  | none => cases h.none; exact .non
  | bool b => cases h.bool; exact .bl b
  | int i => cases h.int; exact .int i
  | str x => cases h.str; exact .str x
  | list ds => obtain ⟨a, xs, rfl, h1, _⟩ := h.lst s; exact .lst h1
  | tuple ds => obtain ⟨a, xs, rfl, h1, _⟩ := h.tup s; exact .tup h1
  | dict ds =>
    rcases nd with nd | ⟨a, ks, rfl, h1⟩
    · exact nd.elim
    · exact .dK h1
/-- every object that is fixed as a dict is one that is not walked -/
def rNTy : R2 := fun x y H Q => ∃ a b, x = .ty a ∧ y = .ty b ∧ (∀ s' : Shared, s'.TypeIs (.type a) "type") ∧ (∀ s' : Shared, s'.TypeIs (.type b) "type") ∧ Q (.bl (!decide (a = b))) H
theorem op_neTy {X : Cx} (hu : X.A.units + 1 < cLine) : OpR X (compareOp .NotEq) rNTy := by
  intro pins s σ H x y v u Q I rx ry h
  obtain ⟨a, b, rfl, rfl, ha, hb, q⟩ := h
  cases rx
  cases ry
  exact ne_types ha hb hu ⟨.bl _, H, I, rfl, q⟩
/-- type(x), also of a dict that is walked -/
def rTypG (K : PySem.W.Frag) : List V → Hp → VK → Prop := fun xs H Q => ∃ x d, xs = [x] ∧ Rp K H x d ∧ Q (.ty (tyN d)) H
theorem call_typeG {X : Cx} : CallR X (.type "type") (rTypG X.K) := by
  intro pins s σ H xs us Q I r h
  obtain ⟨x, d, rfl, rp, q⟩ := h
  cases rp with
  | non => exact call_type1 pins s σ H _ us Q I r ⟨_, _, rfl, .non, q⟩
  | bl b => exact call_type1 pins s σ H _ us Q I r ⟨_, _, rfl, .bl b, q⟩
  | int b => exact call_type1 pins s σ H _ us Q I r ⟨_, _, rfl, .int b, q⟩
  | str b => exact call_type1 pins s σ H _ us Q I r ⟨_, _, rfl, .str b, q⟩
  | lst h1 _ => exact call_type1 pins s σ H _ us Q I r ⟨_, _, rfl, .lst h1, q⟩
  | tup h1 _ => exact call_type1 pins s σ H _ us Q I r ⟨_, _, rfl, .tup h1, q⟩
  | @dct a ks ds h1 _ =>
    obtain ⟨u, rfl, rx⟩ := vals1 r
    cases (show u = Value.ref a from rx)
    obtain ⟨_, _, vs, _, dd⟩ := dk_rd I.hok h1
    exact call_type_of dd.typeIs (by decide +kernel) ⟨.ty "dict", H, I, rfl, q⟩
def fTyNe (T : String) (d : D) : Option RV := some (.val (.bool (!decide (tyN d = T))))
theorem tyNe_run {T : String} (z : Z.Ok) (hT : ∀ s' : Shared, s'.TypeIs (.type T) "type") (hgt : Gl Z.X "type") (hmt : Z.X.mg "type" = none) (hg : Gl Z.X T) (hm : Z.X.mg T = none) (hv : bootBuiltins T = some (.type T)) (ha : SE Z a ma)
    (hn : (T : Str) ≠ "__name__") (hd : ((T : Str) == ("__debug__" : Str)) = false) (he : starEach [a] Z.X.env = [(false, eval a Z.X.env)]) {ρ : Env} {σ : L2.St} {F Fr H : Hp} {Q : VK} (rr : Rel Z.X.K Z.B ρ F Fr H σ) (h : PostE Z σ F Fr Q (mUn (fTyNe T) ma ρ)) :
    tOp rNTy (tCB (rTypG Z.X.K) (tCons (Ce Z.X a) tNil)) (tC (.ty T)) σ H Q := by
  refine un_run (r := fun x H Q => rTypG Z.X.K [x] H fun x H1 => tC (.ty T) σ H1 fun y H2 => rNTy x y H2 Q) ha (fun ρ σ F Fr H x d z Q r hx e k => ?_) rr h
  cases e
  exact ⟨x, d, rfl, hx.rp r.fz, tyN d, T, rfl, rfl, ty_meta d, hT, k F H _ (.refl F) r (.bl _)⟩
theorem s_tyNe (T : String) (z : Z.Ok) (hT : ∀ s' : Shared, s'.TypeIs (.type T) "type") (hgt : Gl Z.X "type") (hmt : Z.X.mg "type" = none) (hg : Gl Z.X T) (hm : Z.X.mg T = none) (ha : SE Z a ma) (hv : bootBuiltins T = some (.type T) := by decide +kernel)
    (hn : (T : Str) ≠ "__name__" := by decide) (hd : ((T : Str) == ("__debug__" : Str)) = false := by decide) (he : starEach [a] Z.X.env = [(false, eval a Z.X.env)] := by kernel_rfl) :
    SE Z (.Compare (.Call (.Name "type" p) [a] [] q) [.NotEq] [.Name T p2] pos) (mUn (fTyNe T) ma) := .mk fun ρ σ F Fr H Q rr h =>
  Ce.of (pe_cmpR (op_neTy z.hu) (pe_callTy call_typeG hgt hmt (by decide +kernel) (pa_cons pe_C pa_nil he) (he := he) (hpl := rfl)) (pe_bltn (v := V.ty T) hg hm hv rfl hn hd) (nomark _)) (tyNe_run z hT hgt hmt hg hm hv ha hn hd he rr h)
theorem mUn_bool {f : D → Option RV} {g : D → Bool} (hf : ∀ d, f d = some (.val (.bool (g d)))) {ρ : Env} {σ : L2.St} {F Fr : Hp} {Q : Bool → Hp → Prop} (h : PostT Z σ F Fr Q (mTru (mUn f ma) ρ)) : PostE Z σ F Fr (fun x H' => ∃ k, x = .bl k ∧ Q k H') (mUn f ma ρ) := by
  simp only [mTru, mUn] at h ⊢
  cases e1 : ma ρ with
  | none => rw [e1] at h; exact h
  | some o => cases o with
    | ex c ρ1 => rw [e1] at h; exact h
    | ok x ρ1 =>
      rw [e1] at h
      simp only [Res.bind] at h ⊢
      cases e2 : rd ρ1 x with
      | none => rw [e2] at h; exact h
      | some d =>
        rw [e2] at h
        simp only [hf] at h ⊢
        intro F' H' v s' r' q'
        have q' : Rp _ _ _ _ := q'
        cases q'
        exact ⟨_, rfl, h F' H' s' r'⟩
theorem t_tyNe (T : String) (z : Z.Ok) (hT : ∀ s' : Shared, s'.TypeIs (.type T) "type") (hgt : Gl Z.X "type") (hmt : Z.X.mg "type" = none) (hg : Gl Z.X T) (hm : Z.X.mg T = none) (ha : SE Z a ma) (hv : bootBuiltins T = some (.type T) := by decide +kernel)
    (hn : (T : Str) ≠ "__name__" := by decide) (hd : ((T : Str) == ("__debug__" : Str)) = false := by decide) (he : starEach [a] Z.X.env = [(false, eval a Z.X.env)] := by kernel_rfl) :
    ST Z (.Compare (.Call (.Name "type" p) [a] [] q) [.NotEq] [.Name T p2] pos) (mTru (mUn (fTyNe T) ma)) := .mk fun ρ σ F Fr H Q rr h =>
  Ct.of (pt_cmpR (op_neTy z.hu) (pe_callTy call_typeG hgt hmt (by decide +kernel) (pa_cons pe_C pa_nil he) (he := he) (hpl := rfl)) (pe_bltn (v := V.ty T) hg hm hv rfl hn hd) (nomark _))
    (tyNe_run (Q := fun x H' => ∃ k, x = .bl k ∧ Q k H') z hT hgt hmt hg hm hv ha hn hd he rr (mUn_bool (g := fun d => !decide (tyN d = T)) (fun d => rfl) h))

/-! ### isinstance(x, T) -/
theorem tyX_of {K : PySem.W.Frag} {H : Hp} {v : V} {d : D} (h : Rp K H v d) : TyX K H v (.type (tyN d)) := by
  cases h with
  | non => exact .base .non
  | bl b => exact .base (.bl b)
  | int i => exact .base (.int i)
  | str x => exact .base (.str x)
  | lst h _ =>
    rcases h with (h | ⟨o, h⟩) | ⟨o, its, n, h, c, _⟩
    · exact .base (.lst h)
    · exact .base (.frz h)
    · exact .kList h c
  | tup h _ =>
    rcases h with (h | ⟨o, h⟩) | ⟨o, its, n, h, c, _⟩
    · exact .base (.tup h)
    · exact .fTuple h
    · exact .kTuple h c
  | dct h _ =>
    rcases h with h | ⟨o, h⟩
    · exact .base (.dK h)
    · exact .fDict h
def fIsi (g : D → Bool) (d : D) : Option RV := some (.val (.bool (g d)))
def isL : D → Bool | .list _ => true | _ => false
def isTu : D → Bool | .tuple _ => true | _ => false
def isB : D → Bool | .bool _ => true | _ => false
def isI : D → Bool | .int _ => true | .bool _ => true | _ => false
def isS : D → Bool | .str _ => true | _ => false
theorem kit_L (d : D) : kitB (tyN d) "list" = some (isL d) := by
  cases d with
  | none => exact (by decide +kernel : kitB "NoneType" "list" = some false)
  | bool _ => exact (by decide +kernel : kitB "bool" "list" = some false)
  | int _ => exact (by decide +kernel : kitB "int" "list" = some false)
  | str _ => exact (by decide +kernel : kitB "str" "list" = some false)
  | list _ => exact (by decide +kernel : kitB "list" "list" = some true)
  | tuple _ => exact (by decide +kernel : kitB "tuple" "list" = some false)
  | dict _ => exact (by decide +kernel : kitB "dict" "list" = some false)
theorem kit_Tu (d : D) : kitB (tyN d) "tuple" = some (isTu d) := by
  cases d with
  | none => exact (by decide +kernel : kitB "NoneType" "tuple" = some false)
  | bool _ => exact (by decide +kernel : kitB "bool" "tuple" = some false)
  | int _ => exact (by decide +kernel : kitB "int" "tuple" = some false)
  | str _ => exact (by decide +kernel : kitB "str" "tuple" = some false)
  | list _ => exact (by decide +kernel : kitB "list" "tuple" = some false)
  | tuple _ => exact (by decide +kernel : kitB "tuple" "tuple" = some true)
  | dict _ => exact (by decide +kernel : kitB "dict" "tuple" = some false)
theorem kit_Bo (d : D) : kitB (tyN d) "bool" = some (isB d) := by
  cases d with
  | none => exact (by decide +kernel : kitB "NoneType" "bool" = some false)
  | bool _ => exact (by decide +kernel : kitB "bool" "bool" = some true)
  | int _ => exact (by decide +kernel : kitB "int" "bool" = some false)
  | str _ => exact (by decide +kernel : kitB "str" "bool" = some false)
  | list _ => exact (by decide +kernel : kitB "list" "bool" = some false)
  | tuple _ => exact (by decide +kernel : kitB "tuple" "bool" = some false)
  | dict _ => exact (by decide +kernel : kitB "dict" "bool" = some false)
theorem kit_I (d : D) : kitB (tyN d) "int" = some (isI d) := by
  cases d with
  | none => exact (by decide +kernel : kitB "NoneType" "int" = some false)
  | bool _ => exact (by decide +kernel : kitB "bool" "int" = some true)
  | int _ => exact (by decide +kernel : kitB "int" "int" = some true)
  | str _ => exact (by decide +kernel : kitB "str" "int" = some false)
  | list _ => exact (by decide +kernel : kitB "list" "int" = some false)
  | tuple _ => exact (by decide +kernel : kitB "tuple" "int" = some false)
  | dict _ => exact (by decide +kernel : kitB "dict" "int" = some false)
theorem kit_S (d : D) : kitB (tyN d) "str" = some (isS d) := by
  cases d with
  | none => exact (by decide +kernel : kitB "NoneType" "str" = some false)
  | bool _ => exact (by decide +kernel : kitB "bool" "str" = some false)
  | int _ => exact (by decide +kernel : kitB "int" "str" = some false)
  | str _ => exact (by decide +kernel : kitB "str" "str" = some true)
  | list _ => exact (by decide +kernel : kitB "list" "str" = some false)
  | tuple _ => exact (by decide +kernel : kitB "tuple" "str" = some false)
  | dict _ => exact (by decide +kernel : kitB "dict" "str" = some false)
theorem isi_run {T : String} {g : D → Bool} (hk : ∀ d, kitB (tyN d) T = some (g d)) (hg : Gl Z.X "isinstance") (hm : Z.X.mg "isinstance" = none) (hgT : Gl Z.X T) (hmT : Z.X.mg T = none) (hv : bootBuiltins T = some (.type T)) (ha : SE Z a ma)
    {ρ : Env} {σ : L2.St} {F Fr H : Hp} {Q : VK} (rr : Rel Z.X.K Z.B ρ F Fr H σ) (h : PostE Z σ F Fr Q (mUn (fIsi g) ma ρ)) : tCB (rIsi Z.X.K) (tCons (Ce Z.X a) (tCons (tC (.ty T)) tNil)) σ H Q := by
  refine un_run (r := fun x H Q => rIsi Z.X.K [x, .ty T] H Q) ha (fun ρ σ F Fr H x d z Q r hx e k => ?_) rr h
  cases e
  exact ⟨x, .ty T, .type (tyN d), .type T, g d, rfl, .ty T, tyX_of (hx.rp r.fz), kit_ty (hk d), k F H _ (.refl F) r (.bl _)⟩
theorem pe_isi (T : String) (hg : Gl Z.X "isinstance") (hm : Z.X.mg "isinstance" = none) (hgT : Gl Z.X T) (hmT : Z.X.mg T = none) (hv : bootBuiltins T = some (.type T))
    (hn : (T : Str) ≠ "__name__") (hd : ((T : Str) == ("__debug__" : Str)) = false) (he : starEach [a, .Name T p2] Z.X.env = (false, eval a Z.X.env) :: starEach [.Name T p2] Z.X.env) :
    PE Z.X (.Call (.Name "isinstance" p) [a, .Name T p2] [] pos) (tCB (rIsi Z.X.K) (tCons (Ce Z.X a) (tCons (tC (.ty T)) tNil))) :=
  pe_callB call_isi hg hm (by decide +kernel) (pa_cons pe_C (pa_cons (pe_bltn hgT hmT hv rfl hn hd) pa_nil) he) (he := he) (hpl := rfl)
theorem s_isi (T : String) {g : D → Bool} (hk : ∀ d, kitB (tyN d) T = some (g d)) (hg : Gl Z.X "isinstance") (hm : Z.X.mg "isinstance" = none) (hgT : Gl Z.X T) (hmT : Z.X.mg T = none) (ha : SE Z a ma) (hv : bootBuiltins T = some (.type T) := by decide +kernel)
    (hn : (T : Str) ≠ "__name__" := by decide) (hd : ((T : Str) == ("__debug__" : Str)) = false := by decide) (he : starEach [a, .Name T p2] Z.X.env = (false, eval a Z.X.env) :: starEach [.Name T p2] Z.X.env := by kernel_rfl) :
    SE Z (.Call (.Name "isinstance" p) [a, .Name T p2] [] pos) (mUn (fIsi g) ma) := .mk fun ρ σ F Fr H Q rr h =>
  Ce.of (pe_isi T hg hm hgT hmT hv hn hd he) (isi_run hk hg hm hgT hmT hv ha rr h)


end

/-! ### str(x) -/
section
variable {X : Cx} {pins : List (Addr × Obj)} {σ : L2.St} {H : Hp} {s : Shared}
mutual
theorem Rp.reads (I : Inv X pins σ H s) : ∀ (d : D) (v : V) (u : Value), Rp X.K H v d → RelV v u → d.hasDict = false → ∃ as, Reads s.heap u d as
  | .none, _, _, h, r, _ => by cases h; cases r; exact ⟨_, Reads.none⟩
  | .bool b, _, _, h, r, _ => by cases h; cases r; exact ⟨_, Reads.bool b⟩
  | .int i, _, _, h, r, _ => by cases h; obtain ⟨t, rfl⟩ := r; exact ⟨_, Reads.int i t⟩
  | .str x, _, _, h, r, _ => by cases h; obtain ⟨t, rfl⟩ := r; exact ⟨_, Reads.str x t⟩
  | .list ds, _, _, h, r, n => by
    cases h with
    | lst hs ha =>
      cases r
      obtain ⟨its, rv, ⟨o, n', ho, hc, _, hd⟩, _⟩ := I.list hs
      obtain ⟨as, hr⟩ := Rp.readsAll I ds _ its ha rv (by simpa only [PyData.hasDict] using n)
      exact ⟨_, Reads.list ho hc hd hr⟩
  | .tuple ds, _, _, h, r, n => by
    cases h with
    | tup hs ha =>
      cases r
      obtain ⟨its, rv, ⟨o, ho, hc, n', hd⟩, _⟩ := I.tuple hs
      obtain ⟨as, hr⟩ := Rp.readsAll I ds _ its ha rv (by simpa only [PyData.hasDict] using n)
      exact ⟨_, Reads.tuple ho hc hd hr⟩
  | .dict _, _, _, _, _, n => by simp [PyData.hasDict] at n
theorem Rp.readsAll (I : Inv X pins σ H s) : ∀ (ds : List D) (vs : List V) (us : List Value), RpAll X.K H vs ds → Vals vs us → PyData.hasDictAll ds = false → ∃ as, ReadsAll s.heap us ds as
  | [], _, _, h, r, _ => by cases h; cases r; exact ⟨_, ReadsAll.nil⟩
  | d :: ds, _, _, h, r, n => by
    simp only [PyData.hasDictAll, Bool.or_eq_false_iff] at n
    cases h with
    | cons h1 h2 =>
      cases r with
      | cons r1 r2 =>
        obtain ⟨as, q1⟩ := Rp.reads I d _ _ h1 r1 n.1
        obtain ⟨bs, q2⟩ := Rp.readsAll I ds _ _ h2 r2 n.2
        exact ⟨_, ReadsAll.cons q1 q2⟩
end
theorem Rp.reads0 (I : Inv X pins σ H s) {v : V} {u : Value} (h : Rp X.K H v (.dict [])) (r : RelV v u) : ∃ as, Reads s.heap u (.dict []) as ∧ sysModules ∉ as := by
  cases h with
  | @dct a ks _ h1 h2 =>
    cases h2
    cases r
    obtain ⟨_, ne, vs, kv, o, es, ep, e1, e2, e3, _, e5, _⟩ := dk_rd I.hok h1
    cases kv
    generalize hes : es.toList = l at e5
    cases e5
    refine ⟨_, Reads.dict (as := []) (bs := []) e1 e2.1 e3 (by rw [hes]; exact .nil) (by rw [hes]; exact .nil), ?_⟩
    intro hm
    simp only [List.append_nil, List.mem_singleton] at hm
    rw [← hm] at ne
    simp at ne
end
/-- what str gives -/
def strD (d : D) : Option Str := match d with
  | .str x => some x
  | .dict [] => some (PyData.shown (.dict []))
  | d => if d.showable = true ∧ d.hasDict = false ∧ d.shown.length ≤ big ∧ d.depth ≤ 40 then some d.shown else none
def rStrD (K : PySem.W.Frag) : List V → Hp → VK → Prop := fun xs H Q => ∃ x d y, xs = [x] ∧ Rp K H x d ∧ strD d = some y ∧ Q (.str y) H
theorem call_strD {Z : Zx} (z : Z.Ok) : CallR Z.X (.type "str") (rStrD Z.X.K) := by
  intro pins s σ H xs us Q I r h
  obtain ⟨x, d, y, rfl, rp, e, q⟩ := h
  obtain ⟨u, rfl, rx⟩ := vals1 r
  have un := z.room.un
  have fin : ∀ (a : Addr) (d : D) (as : List Addr), Reads s.heap (.ref a) d as → d.showable = true → (d.hasDict = true → sysModules ∉ as) → d.shown.length ≤ big → d.depth ≤ 40 → Q (.str d.shown) H →
      wpAny (model Z.X.prog Z.X.w) Z.X.A (call (.type "str") [.ref a]) (EP Z.X pins σ Q) Z.X.xe s := fun a d as hr h1 h2 h3 h4 q =>
    str_of_reads hr h1 h2 z.gd (by omega) (fun _ _ e => e) (fun h' t tk k => ⟨.str d.shown, H, I.kept k, ⟨_, rfl⟩, q⟩) (Nat.le_trans h3 big_line)
  cases rp with
  | non =>
    cases (show u = Value.none from rx)
    have e : (if (PyData.none).showable = true ∧ (PyData.none).hasDict = false ∧ (PyData.none).shown.length ≤ big ∧ (PyData.none).depth ≤ 40 then some (PyData.none).shown else none) = some y := e
    split at e
    · cases e
      exact PySem.P.str_of_none ⟨.str _, H, I.tok _, ⟨_, rfl⟩, by simpa only [PyData.shown] using q⟩
    · cases e
  | bl b =>
    cases (show u = Value.bool b from rx)
    have e : (if (PyData.bool b).showable = true ∧ (PyData.bool b).hasDict = false ∧ (PyData.bool b).shown.length ≤ big ∧ (PyData.bool b).depth ≤ 40 then some (PyData.bool b).shown else none) = some y := e
    split at e
    · cases e
      exact PySem.P.str_of_bool ⟨.str _, H, I.tok _, ⟨_, rfl⟩, by simp only [PyData.shown] at q; cases b <;> exact q⟩
    · cases e
  | int i =>
    obtain ⟨t, rfl⟩ := (show ∃ t, u = Value.int i t from rx)
    have e : (if (PyData.int i).showable = true ∧ (PyData.int i).hasDict = false ∧ (PyData.int i).shown.length ≤ big ∧ (PyData.int i).depth ≤ 40 then some (PyData.int i).shown else none) = some y := e
    split at e
    · rename_i hh
      cases e
      exact PySem.P.str_of_int (by simpa [PyData.showable] using hh.1) ⟨.str _, H, I.tok _, ⟨_, rfl⟩, by simpa only [PyData.shown] using q⟩
    · cases e
  | str x =>
    obtain ⟨t, rfl⟩ := (show ∃ t, u = Value.str x t from rx)
    have e : some x = some y := e
    cases e
    exact PySem.P.str_of_str ⟨.str _, H, I, ⟨_, rfl⟩, q⟩
  | @lst a xs ds h1 h2 =>
    cases (show u = Value.ref a from rx)
    have e : (if (PyData.list ds).showable = true ∧ (PyData.list ds).hasDict = false ∧ (PyData.list ds).shown.length ≤ big ∧ (PyData.list ds).depth ≤ 40 then some (PyData.list ds).shown else none) = some y := e
    split at e
    · rename_i hh
      cases e
      obtain ⟨as, hr⟩ := Rp.reads I (.list ds) _ _ (.lst h1 h2) rfl hh.2.1
      exact fin a _ as hr hh.1 (fun z => by rw [hh.2.1] at z; cases z) hh.2.2.1 hh.2.2.2 q
    · cases e
  | @tup a xs ds h1 h2 =>
    cases (show u = Value.ref a from rx)
    have e : (if (PyData.tuple ds).showable = true ∧ (PyData.tuple ds).hasDict = false ∧ (PyData.tuple ds).shown.length ≤ big ∧ (PyData.tuple ds).depth ≤ 40 then some (PyData.tuple ds).shown else none) = some y := e
    split at e
    · rename_i hh
      cases e
      obtain ⟨as, hr⟩ := Rp.reads I (.tuple ds) _ _ (.tup h1 h2) rfl hh.2.1
      exact fin a _ as hr hh.1 (fun z => by rw [hh.2.1] at z; cases z) hh.2.2.1 hh.2.2.2 q
    · cases e
  | @dct a ks ds h1 h2 =>
    cases (show u = Value.ref a from rx)
    cases ds with
    | nil =>
      have e : some (PyData.shown (.dict [])) = some y := e
      cases e
      obtain ⟨as, hr, hn⟩ := Rp.reads0 (u := .ref a) I (.dct h1 h2) rfl
      exact fin a _ as hr (by simp [PyData.showable, PyData.showableKv]) (fun _ => hn) (by decide +kernel) (by simp [PyData.depth, PyData.depthKv]) q
    | cons p r =>
      have e : (if (PyData.dict (p :: r)).showable = true ∧ (PyData.dict (p :: r)).hasDict = false ∧ (PyData.dict (p :: r)).shown.length ≤ big ∧ (PyData.dict (p :: r)).depth ≤ 40 then some (PyData.dict (p :: r)).shown else none) = some y := e
      split at e
      · rename_i hh
        exact absurd hh.2.1 (by simp [PyData.hasDict])
      · cases e
section
variable {Z : Zx} {a b c : Expr} {ma mb mc : M} {pos p : Pos}
def fStr (d : D) : Option RV := (strD d).map fun y => .val (.str y)
theorem cs_str : CaS Z (rStrD Z.X.K) fStr := by
  intro ρ σ F Fr H x q z Q r hx e k
  unfold fStr at e
  cases es : strD q with
  | none => rw [es] at e; cases e
  | some y =>
    rw [es] at e
    cases e
    exact ⟨x, q, y, rfl, hx.rp r.fz, es, k F H _ (.refl F) r (.str _)⟩
theorem s_toStr (z : Z.Ok) (hg : Gl Z.X "str") (hm : Z.X.mg "str" = none) (ha : SE Z a ma) (he : starEach [a] Z.X.env = [(false, eval a Z.X.env)] := by kernel_rfl) : SE Z (.Call (.Name "str" p) [a] [] pos) (mUn fStr ma) :=
  s_ty1 (call_strD z) cs_str hg hm (by decide +kernel) ha (he := he)

/-! ### a < b < c -/
theorem chain_run {r r' : R2} {f g : D → D → Option RV} (o : OpS Z r f) (o' : OpS Z r' g) (ha : SE Z a ma) (hb : SE Z b mb) (hc : SE Z c mc) {ρ : Env} {σ : L2.St} {F Fr H : Hp} {Q : VK} (rr : Rel Z.X.K Z.B ρ F Fr H σ)
    (h : PostE Z σ F Fr Q (mChain f g ma mb mc ρ)) : tChain r r' (Ce Z.X a) (Ce Z.X b) (Ce Z.X c) σ H Q := by
  simp only [mChain] at h
  refine ha.use rr (fun x ρ1 e1 F1 H1 v1 s1 r1 q1 => ?_) (fun c ρ1 e1 F1 H1 s1 r1 => ?_) (fun e1 => ?_)
  · rw [e1] at h
    simp only [Res.bind] at h
    refine hb.use r1 (fun y ρ2 e2 F2 H2 v2 s2 r2 q2 => ?_) (fun c ρ2 e2 F2 H2 s2 r2 => ?_) (fun e2 => ?_)
    · rw [e2] at h
      simp only at h
      split at h
      · rename_i p q ep eq
        have hx := r2.rd (x := x.fz) (RVRel.mv s2 q1) (by rw [rd_fz]; exact ep)
        have hy := r2.rd (x := y.fz) q2 (by rw [rd_fz]; exact eq)
        split at h
        · rename_i ef
          refine o ρ2 σ F2 Fr H2 v1 v2 p q _ _ r2 hx hy ef fun F3 H3 v3 s3 r3 q3 => ?_
          have q3 : Rp _ _ _ _ := q3
          cases q3
          refine ⟨true, rfl, iteT ?_⟩
          refine hc.use r3 (fun w ρ3 e3 F4 H4 v4 s4 r4 q4 => ?_) (fun c ρ3 e3 F4 H4 s4 r4 => ?_) (fun e3 => ?_)
          · rw [e3] at h
            simp only at h
            split at h
            · rename_i q' r0 ep' eq'
              cases eg : g q' r0 with
              | none => rw [eg] at h; exact h.elim
              | some z =>
                rw [eg] at h
                exact o' ρ3 σ F4 Fr H4 v2 v4 q' r0 z Q r4 (r4.rd (x := y.fz) (RVRel.mv (s3.trans s4) q2) (by rw [rd_fz]; exact ep')) (r4.rd (x := w.fz) q4 (by rw [rd_fz]; exact eq')) eg
                  fun F' H' v s' r' q' => h F' H' v ((((s1.trans s2).trans s3).trans s4).trans s') r' q'
            · exact h.elim
          · rw [e3] at h; exact h F4 H4 (((s1.trans s2).trans s3).trans s4) r4
          · rw [e3] at h; exact h
        · rename_i ef
          refine o ρ2 σ F2 Fr H2 v1 v2 p q _ _ r2 hx hy ef fun F3 H3 v3 s3 r3 q3 => ?_
          have q3' : Rp _ _ _ _ := q3
          cases q3'
          exact ⟨false, rfl, iteF (h F3 H3 _ ((s1.trans s2).trans s3) r3 q3)⟩
        · exact h.elim
      · exact h.elim
    · rw [e2] at h; exact h F2 H2 (s1.trans s2) r2
    · rw [e2] at h; exact h
  · rw [e1] at h; exact h F1 H1 s1 r1
  · rw [e1] at h; exact h
theorem mChain_bool {f g : D → D → Option RV} (hf : ∀ p q z, g p q = some z → ∃ k, z = .val (.bool k)) {ρ : Env} {σ : L2.St} {F Fr : Hp} {Q : Bool → Hp → Prop} (h : PostT Z σ F Fr Q (mTru (mChain f g ma mb mc) ρ)) :
    PostE Z σ F Fr (fun x H' => ∃ k, x = .bl k ∧ Q k H') (mChain f g ma mb mc ρ) := by
  have key : ∀ ρ' z, mChain f g ma mb mc ρ = some (.ok z ρ') → ∃ k, z = .val (.bool k) := fun ρ' z e => by
    simp only [mChain] at e
    cases e1 : ma ρ with
    | none => rw [e1] at e; cases e
    | some o1 => cases o1 with
      | ex c ρ1 => rw [e1] at e; cases e
      | ok x ρ1 =>
        rw [e1] at e
        simp only [Res.bind] at e
        cases e2 : mb ρ1 with
        | none => rw [e2] at e; cases e
        | some o2 => cases o2 with
          | ex c ρ2 => rw [e2] at e; cases e
          | ok y ρ2 =>
            rw [e2] at e
            simp only at e
            split at e
            · split at e
              · cases e3 : mc ρ2 with
                | none => rw [e3] at e; cases e
                | some o3 => cases o3 with
                  | ex c ρ3 => rw [e3] at e; cases e
                  | ok w ρ3 =>
                    rw [e3] at e
                    simp only at e
                    split at e
                    · rename_i q' r0 _ _
                      cases eg : g q' r0 with
                      | none => rw [eg] at e; cases e
                      | some z1 => rw [eg] at e; cases e; exact hf _ _ _ eg
                    · cases e
              · cases e; exact ⟨_, rfl⟩
              · cases e
            · cases e
  simp only [mTru] at h
  cases e : mChain f g ma mb mc ρ with
  | none => rw [e] at h; exact h
  | some o1 => cases o1 with
    | ex c ρ1 => rw [e] at h; exact h
    | ok z ρ1 =>
      obtain ⟨k, rfl⟩ := key ρ1 z e
      rw [e] at h
      intro F' H' v s' r' q'
      have q' : Rp _ _ _ _ := q'
      cases q'
      exact ⟨k, rfl, h F' H' s' r'⟩
theorem t_le_le (ha : SE Z a ma) (hb : SE Z b mb) (hc : SE Z c mc) (hm : lastMarks [.LtE, .LtE] [b, c] = false := by with_unfolding_all rfl) : ST Z (.Compare a [.LtE, .LtE] [b, c] pos) (mTru (mChain fLe fLe ma mb mc)) := .mk fun ρ σ F Fr H Q rr h =>
  Ct.of (pt_chain op_le op_le pe_C pe_C pe_C hm) (chain_run (Q := fun x H' => ∃ k, x = .bl k ∧ Q k H') (os_I0 fun _ _ _ => .bl _) (os_I0 fun _ _ _ => .bl _) ha hb hc rr (mChain_bool (bI _ _) h))
theorem t_le_lt (ha : SE Z a ma) (hb : SE Z b mb) (hc : SE Z c mc) (hm : lastMarks [.LtE, .Lt] [b, c] = false := by with_unfolding_all rfl) : ST Z (.Compare a [.LtE, .Lt] [b, c] pos) (mTru (mChain fLe fLt ma mb mc)) := .mk fun ρ σ F Fr H Q rr h =>
  Ct.of (pt_chain op_le op_lt pe_C pe_C pe_C hm) (chain_run (Q := fun x H' => ∃ k, x = .bl k ∧ Q k H') (os_I0 fun _ _ _ => .bl _) (os_I0 fun _ _ _ => .bl _) ha hb hc rr (mChain_bool (bI _ _) h))
end
end Pi
set_option maxRecDepth 100000
set_option maxHeartbeats 1000000
/-! the call of a def of one's own -/
namespace Pi
open PySem PySem.Spec PyProof.Rows L2

/-- a def's promise: it does as the pure reading says -/
def PostF (K : PySem.W.Frag) (cls : Nat → Value) (B : Nat → Option Addr) (vs : List V) (F Fr : Hp) (Q : VK) (E : XK) : Option Out → Prop
  | none => False
  | some (.rt r outs) => (∀ i, r ≠ .slot i) ∧ ∀ F' H' v, Same F F' → Rel K B outs F' Fr H' (vs.map some) → RVRel K outs F' Fr H' (vs.map some) v r → Q v H'
  | some (.ex c outs) => ∀ F' H', Same F F' → Rel K B outs F' Fr H' (vs.map some) → E (cls c) none H'
def SpF (K : PySem.W.Frag) (cls : Nat → Value) (n : Nat) (sem : Env → Option Out) : Sp := fun vs H Q E => vs.length = n ∧ ∃ (ins : Env) (F Fr : Hp) (B : Nat → Option Addr),
  Rel K B ins F Fr H (vs.map some) ∧ (∀ (i : Nat) (d : D) (b : Bool), ins[i]? = some (Slot.own d b) → b = true ∧ ∃ a, B i = some a) ∧ PostF K cls B vs F Fr Q E (sem ins)
/-- the def at f keeps the promise, by k calls; nothing is being shown around -/
def FnG (P : Program) (w : World) (K : PySem.W.Frag) (mg : Str → Option Value) (base : Heap) (k : Nat) (f : Addr) (fd : FuncData) (ps : List Str) (sp : Sp) : Prop :=
  (∀ vs H Q E, sp vs H Q E → vs.length = ps.length) ∧
  ∀ (A : Around) (outer : List PySem.Env) (s : Shared) (H : Hp) (args : Args) (us : List Value) (vs : List V) (Q : VK) (E : XK), Room k A → A.guards = some [] → Env0 P w K mg base A outer s H → BindsTo s fd args (ps.zip us) → Vals vs us → sp vs H Q E →
    codeAny (model P w) A (.call (.ref f) args) (CR (L2.CX P w) outer P w H s Q E) s

/-- what is known of a name that is a def -/
structure FnAt (X : Cx) (cls : Nat → Value) (k : Nat) (x : Str) (n : Nat) (sem : Env → Option Out) : Prop where
  ex : ∃ f fd ps, X.mg x = some (.ref f) ∧ PySem.W.keepIn X.K (.ref f) = true ∧ Binds X.K fd ps [] ∧ ps.length = n ∧ FnG X.prog X.w X.K X.mg X.base k f fd ps (SpF X.K cls n sem)

/-! ### the arguments, as the callee meets them -/
def insOf (ρ : Env) : List AV → Option Env
  | [] => some []
  | .val d :: r => (insOf ρ r).map (Slot.val d :: ·)
  | .ref i :: r => match ρ[i]? with
    | some (.own d _) => (insOf ρ r).map (Slot.own d true :: ·)
    | _ => none
def refsOf : List AV → List Nat
  | [] => []
  | .val _ :: r => refsOf r
  | .ref i :: r => i :: refsOf r
/-- what the callee left at the lent slots -/
def back (ρ : Env) : List AV → Env → Option Env
  | [], _ => some ρ
  | .val _ :: r, _ :: os => back ρ r os
  | .ref i :: r, .own d _ :: os => match ρ[i]? with
    | some (.own _ b) => (back ρ r os).map fun ρ' => ρ'.set i (.own d b)
    | _ => none
  | _, _ => none
def mCall (sem : Env → Option Out) (a : MA) : M := fun ρ => Res.bind (a ρ) fun l ρ1 => match insOf ρ1 l with
  | some ins => if (refsOf l).Nodup then match sem ins with
      | some (.rt r outs) => match r with
        | .slot _ => none
        | _ => (back ρ1 l outs).map fun ρ2 => .ok r ρ2
      | some (.ex c outs) => (back ρ1 l outs).map fun ρ2 => .ex c ρ2
      | none => none
    else none
  | none => none

section
variable {K : PySem.W.Frag} {B : Nat → Option Addr} {ρ : Env} {F Fr H : Hp} {σ : L2.St}
/-- the i-th argument -/
theorem ins_get : ∀ {l : List AV} {ins : Env}, insOf ρ l = some ins → ins.length = l.length ∧ (∀ (i : Nat) (d : D), l[i]? = some (AV.val d) → ins[i]? = some (Slot.val d)) ∧
    ∀ (i j : Nat), l[i]? = some (AV.ref j) → ∃ d b, ρ[j]? = some (Slot.own d b) ∧ ins[i]? = some (Slot.own d true)
  | [], ins, e => by cases e; exact ⟨rfl, fun i d h => by simp at h, fun i j h => by simp at h⟩
  | .val d :: r, ins, e => by
    simp only [insOf] at e
    cases e1 : insOf ρ r with
    | none => rw [e1] at e; cases e
    | some t =>
      rw [e1] at e; cases e
      obtain ⟨h1, h2, h3⟩ := ins_get e1
      refine ⟨by simp [h1], fun i d' h => ?_, fun i j h => ?_⟩
      · cases i with
        | zero => simp at h ⊢; exact h
        | succ i => simpa using h2 i d' (by simpa using h)
      · cases i with
        | zero => simp at h
        | succ i => simpa using h3 i j (by simpa using h)
  | .ref k :: r, ins, e => by
    simp only [insOf] at e
    split at e
    · rename_i d b hk
      cases e1 : insOf ρ r with
      | none => rw [e1] at e; cases e
      | some t =>
        rw [e1] at e; cases e
        obtain ⟨h1, h2, h3⟩ := ins_get e1
        refine ⟨by simp [h1], fun i d' h => ?_, fun i j h => ?_⟩
        · cases i with
          | zero => simp at h
          | succ i => simpa using h2 i d' (by simpa using h)
        · cases i with
          | zero => simp at h; subst h; exact ⟨d, b, hk, rfl⟩
          | succ i => simpa using h3 i j (by simpa using h)
    · cases e
theorem mem_refs {l : List AV} {j : Nat} : j ∈ refsOf l ↔ ∃ i : Nat, l[i]? = some (AV.ref j) := by
  induction l with
  | nil => simp [refsOf]
  | cons x r ih =>
    cases x with
    | val d =>
      simp only [refsOf]
      rw [ih]
      constructor
      · rintro ⟨i, h⟩; exact ⟨i + 1, by simpa using h⟩
      · rintro ⟨i, h⟩
        cases i with
        | zero => simp at h
        | succ i => exact ⟨i, by simpa using h⟩
    | ref k =>
      simp only [refsOf, List.mem_cons]
      rw [ih]
      constructor
      · rintro (rfl | ⟨i, h⟩)
        · exact ⟨0, rfl⟩
        · exact ⟨i + 1, by simpa using h⟩
      · rintro ⟨i, h⟩
        cases i with
        | zero => simp at h; exact .inl h.symm
        | succ i => exact .inr ⟨i, by simpa using h⟩
theorem refs_inj : ∀ {l : List AV}, (refsOf l).Nodup → ∀ {i i' j : Nat}, l[i]? = some (AV.ref j) → l[i']? = some (AV.ref j) → i = i'
  | [], _, i, _, _, h, _ => by simp at h
  | .val d :: r, n, i, i', j, h, h' => by
    cases i with
    | zero => simp at h
    | succ i =>
      cases i' with
      | zero => simp at h'
      | succ i' => exact congrArg (· + 1) (refs_inj (l := r) n (by simpa using h) (by simpa using h'))
  | .ref k :: r, n, i, i', j, h, h' => by
    simp only [refsOf, List.nodup_cons] at n
    cases i with
    | zero =>
      simp at h; subst h
      cases i' with
      | zero => rfl
      | succ i' => exact absurd (mem_refs.mpr ⟨i', by simpa using h'⟩) n.1
    | succ i =>
      cases i' with
      | zero => simp at h'; subst h'; exact absurd (mem_refs.mpr ⟨i, by simpa using h⟩) n.1
      | succ i' => exact congrArg (· + 1) (refs_inj (l := r) n.2 (by simpa using h) (by simpa using h'))
theorem paired_at {α β : Type} {G : α → β → Prop} : ∀ {l : List α} {m : List β}, Paired G l m → ∀ {i : Nat} {b : β}, m[i]? = some b → ∃ a, l[i]? = some a ∧ G a b
  | _, _, .nil, i, b, h => by simp at h
  | _, _, .cons r t, 0, b, h => by simp at h; subst h; exact ⟨_, rfl, r⟩
  | _, _, .cons r t, i + 1, b, h => by
    obtain ⟨a, h1, h2⟩ := paired_at t (i := i) (by simpa using h)
    exact ⟨a, by simpa using h1, h2⟩
theorem back_len : ∀ {l : List AV} {os : Env} {ρ' : Env}, back ρ l os = some ρ' → ρ'.length = ρ.length
  | [], os, ρ', e => by simp only [back] at e; cases e; rfl
  | .val d :: r, [], ρ', e => by simp [back] at e
  | .val d :: r, o :: os, ρ', e => back_len (l := r) (by simpa only [back] using e)
  | .ref k :: r, [], ρ', e => by simp [back] at e
  | .ref k :: r, .un :: os, ρ', e => by simp [back] at e
  | .ref k :: r, .val _ :: os, ρ', e => by simp [back] at e
  | .ref k :: r, .own d _ :: os, ρ', e => by
    simp only [back] at e
    split at e
    · cases e1 : back ρ r os with
      | none => rw [e1] at e; cases e
      | some t => rw [e1] at e; cases e; rw [List.length_set]; exact back_len e1
    · cases e
theorem back_other : ∀ {l : List AV} {os : Env} {ρ' : Env}, back ρ l os = some ρ' → ∀ (j : Nat), j ∉ refsOf l → ρ'[j]? = ρ[j]?
  | [], os, ρ', e, j, _ => by simp only [back] at e; cases e; rfl
  | .val d :: r, [], ρ', e, _, _ => by simp [back] at e
  | .val d :: r, o :: os, ρ', e, j, h => back_other (l := r) (by simpa only [back] using e) j (by simpa only [refsOf] using h)
  | .ref k :: r, [], ρ', e, _, _ => by simp [back] at e
  | .ref k :: r, .un :: os, ρ', e, _, _ => by simp [back] at e
  | .ref k :: r, .val _ :: os, ρ', e, _, _ => by simp [back] at e
  | .ref k :: r, .own d _ :: os, ρ', e, j, h => by
    simp only [back] at e
    simp only [refsOf, List.mem_cons, not_or] at h
    split at e
    · cases e1 : back ρ r os with
      | none => rw [e1] at e; cases e
      | some t =>
        rw [e1] at e; cases e
        rw [List.getElem?_set_ne (Ne.symm h.1)]
        exact back_other e1 j h.2
    · cases e
theorem back_ref : ∀ {l : List AV} {os : Env} {ρ' : Env}, back ρ l os = some ρ' → (refsOf l).Nodup → ∀ (i j : Nat), l[i]? = some (AV.ref j) → ∃ d b b' d0, os[i]? = some (Slot.own d b') ∧ ρ[j]? = some (Slot.own d0 b) ∧ ρ'[j]? = some (Slot.own d b)
  | [], os, ρ', e, _, i, j, h => by simp at h
  | .val d :: r, [], ρ', e, _, _, _, _ => by simp [back] at e
  | .val d :: r, o :: os, ρ', e, n, i, j, h => by
    cases i with
    | zero => simp at h
    | succ i =>
      obtain ⟨d, b, b', d0, h1, h2, h3⟩ := back_ref (l := r) (os := os) (by simpa only [back] using e) (by simpa only [refsOf] using n) i j (by simpa using h)
      exact ⟨d, b, b', d0, by simpa using h1, h2, h3⟩
  | .ref k :: r, [], ρ', e, _, _, _, _ => by simp [back] at e
  | .ref k :: r, .un :: os, ρ', e, _, _, _, _ => by simp [back] at e
  | .ref k :: r, .val _ :: os, ρ', e, _, _, _, _ => by simp [back] at e
  | .ref k :: r, .own d _ :: os, ρ', e, n, i, j, h => by
    simp only [back] at e
    simp only [refsOf, List.nodup_cons] at n
    split at e
    · rename_i d0 b hk
      cases e1 : back ρ r os with
      | none => rw [e1] at e; cases e
      | some t =>
        rw [e1] at e; cases e
        cases i with
        | zero =>
          simp at h; subst h
          refine ⟨d, b, _, d0, rfl, hk, ?_⟩
          rw [List.getElem?_set_self]
          rw [back_len e1]
          exact (List.getElem?_eq_some_iff.mp hk).1
        | succ i =>
          have h' : r[i]? = some (AV.ref j) := by simpa using h
          obtain ⟨d, b, b', d0, h1, h2, h3⟩ := back_ref e1 n.2 i j h'
          have nk : k ≠ j := fun z => n.1 (mem_refs.mpr ⟨i, by rw [z]; exact h'⟩)
          exact ⟨d, b, b', d0, by simpa using h1, h2, by rw [List.getElem?_set_ne nk]; exact h3⟩
    · cases e
end

section
variable {Z : Zx} {es : List Expr} {e : Expr} {mr : MA} {x : Str} {sem : Env → Option Out} {n : Nat} {p pos : Pos}
open Classical in
/-- the caller's other changeable objects are in the callee's frame -/
noncomputable def frOf (ρ : Env) (σ : L2.St) (l : List AV) (Fr H : Hp) : Hp := fun b =>
  if ∃ (j : Nat) (d : D) (b' : Bool), j ∉ refsOf l ∧ ρ[j]? = some (Slot.own d b') ∧ σ[j]? = some (some (.ref b)) then H b else Fr b
theorem frOf_own {ρ : Env} {σ : L2.St} {l : List AV} {Fr H : Hp} {j : Nat} {d : D} {b' : Bool} {b : Addr} (h1 : j ∉ refsOf l) (h2 : ρ[j]? = some (Slot.own d b')) (h3 : σ[j]? = some (some (.ref b))) : frOf ρ σ l Fr H b = H b := by
  unfold frOf
  rw [if_pos ⟨j, d, b', h1, h2, h3⟩]
theorem frOf_cases {ρ : Env} {σ : L2.St} {l : List AV} {Fr H : Hp} (b : Addr) : (∃ (j : Nat) (d : D) (b' : Bool), j ∉ refsOf l ∧ ρ[j]? = some (Slot.own d b') ∧ σ[j]? = some (some (.ref b)) ∧ frOf ρ σ l Fr H b = H b) ∨ frOf ρ σ l Fr H b = Fr b := by
  by_cases h : ∃ (j : Nat) (d : D) (b' : Bool), j ∉ refsOf l ∧ ρ[j]? = some (Slot.own d b') ∧ σ[j]? = some (some (.ref b))
  · obtain ⟨j, d, b', h1, h2, h3⟩ := h
    exact .inl ⟨j, d, b', h1, h2, h3, frOf_own h1 h2 h3⟩
  · refine .inr ?_
    unfold frOf
    rw [if_neg h]
/-- the callee's own relation at its entry -/
theorem enter {K : PySem.W.Frag} {B : Nat → Option Addr} {ρ : Env} {F Fr H : Hp} {σ : L2.St} (r : Rel K B ρ F Fr H σ) {l : List AV} {vs : List V} {ins : Env} (hv : Paired (AVRel K F σ) vs l) (hi : insOf ρ l = some ins) (hn : (refsOf l).Nodup) :
    ∃ B', Rel K B' ins F (frOf ρ σ l Fr H) H (vs.map some) ∧ ∀ (i : Nat) (d : D) (b : Bool), ins[i]? = some (Slot.own d b) → b = true ∧ ∃ a, B' i = some a := by
  obtain ⟨i1, i2, i3⟩ := ins_get hi
  have vl : vs.length = l.length := Paired.length hv
  have at_ : ∀ (i : Nat) (s : Slot), ins[i]? = some s → ∃ x, l[i]? = some x := fun i s h => by
    have : i < l.length := by rw [← i1]; exact (List.getElem?_eq_some_iff.mp h).1
    exact ⟨_, List.getElem?_eq_getElem this⟩
  -- what an own slot of the callee is
  have ownS : ∀ (i : Nat) (d : D) (b : Bool), ins[i]? = some (Slot.own d b) → b = true ∧ ∃ (j : Nat) (b0 : Bool) (a : Addr), l[i]? = some (AV.ref j) ∧ ρ[j]? = some (Slot.own d b0) ∧ σ[j]? = some (some (.ref a)) ∧ (vs.map some)[i]? = some (some (.ref a)) ∧ F a = none ∧ Fr a = none ∧ OwnAt K F H a d := fun i d b h => by
    obtain ⟨x, hx⟩ := at_ i _ h
    cases x with
    | val d' => rw [i2 i d' hx] at h; cases h
    | ref j =>
      obtain ⟨d0, b0, h1, h2⟩ := i3 i j hx
      rw [h] at h2; cases h2
      obtain ⟨a, g1, g2, g3, g4⟩ := r.own j d b0 h1
      obtain ⟨v, w1, w2⟩ := paired_at hv hx
      have w2 : σ[j]? = some (some v) := w2
      rw [g1] at w2; cases w2
      exact ⟨rfl, j, b0, a, hx, h1, g1, by rw [List.getElem?_map, w1]; rfl, g2, g3, g4⟩
  refine ⟨fun i => match ins[i]?, (vs.map some)[i]? with
    | some (.own _ _), some (some (.ref a)) => some a
    | _, _ => none, ⟨by rw [List.length_map, vl, i1], fun i d h => ?_, fun i d b h => ?_, fun i j d b d' b' a h1 h2 s1 s2 => ?_, r.fz, fun b u e => ?_, fun i a h => ?_⟩, fun i d b h => ?_⟩
  · obtain ⟨x, hx⟩ := at_ i _ h
    cases x with
    | val d' =>
      rw [i2 i d' hx] at h; cases h
      obtain ⟨v, w1, w2⟩ := paired_at hv hx
      exact ⟨v, by rw [List.getElem?_map, w1]; rfl, w2⟩
    | ref j =>
      obtain ⟨d0, b0, h1, h2⟩ := i3 i j hx
      rw [h] at h2; cases h2
  · obtain ⟨_, j, b0, a, g1, g2, g3, g4, g5, g6, g7⟩ := ownS i d b h
    refine ⟨a, g4, g5, ?_, g7⟩
    rcases frOf_cases (ρ := ρ) (σ := σ) (l := l) (Fr := Fr) (H := H) a with ⟨k, d1, b1, k1, k2, k3, _⟩ | q
    · have : k = j := r.apart k j d1 b1 d b0 a k2 g2 k3 g3
      subst this
      exact absurd (mem_refs.mpr ⟨i, g1⟩) k1
    · rw [q]; exact g6
  · obtain ⟨_, k, b0, a0, g1, g2, g3, g4, _⟩ := ownS i d b h1
    obtain ⟨_, k', b0', a0', g1', g2', g3', g4', _⟩ := ownS j d' b' h2
    rw [g4] at s1; cases s1
    rw [g4'] at s2; cases s2
    have : k = k' := r.apart k k' d b0 d' b0' _ g2 g2' g3 g3'
    subst this
    exact refs_inj hn g1 g1'
  · rcases frOf_cases (ρ := ρ) (σ := σ) (l := l) (Fr := Fr) (H := H) b with ⟨k, d1, b1, k1, k2, k3, q⟩ | q
    · rw [q] at e
      obtain ⟨a, g1, g2, _⟩ := r.own k d1 b1 k2
      rw [k3] at g1; cases g1
      exact ⟨e, g2⟩
    · rw [q] at e
      exact r.fr b u e
  · split at h
    · rename_i d b a' h1 h2
      cases h
      obtain ⟨rfl, _⟩ := ownS i d b h1
      exact ⟨h2, d, h1⟩
    · cases h
  · obtain ⟨hb, j, b0, a, g1, g2, g3, g4, _⟩ := ownS i d b h
    refine ⟨hb, a, ?_⟩
    simp only [h, g4]
/-- back from the callee -/
theorem leave {K : PySem.W.Frag} {B B' : Nat → Option Addr} {ρ : Env} {F F' Fr H H' : Hp} {σ : L2.St} (r : Rel K B ρ F Fr H σ) {l : List AV} {vs : List V} {outs ρ' : Env} (hv : Paired (AVRel K F σ) vs l) (hn : (refsOf l).Nodup)
    (s : Same F F') (r' : Rel K B' outs F' (frOf ρ σ l Fr H) H' (vs.map some)) (hb : back ρ l outs = some ρ') :
    Rel K B ρ' F' Fr H' σ ∧ ∀ (a : Addr), (frOf ρ σ l Fr H) a = none → (∀ (i : Nat) (d' : D) (b : Bool), outs[i]? = some (Slot.own d' b) → (vs.map some)[i]? ≠ some (some (.ref a))) → (∃ o, H' a = some o) →
      Fr a = none ∧ ∀ (i : Nat) (d' : D) (b : Bool), ρ'[i]? = some (Slot.own d' b) → σ[i]? ≠ some (some (.ref a)) := by
  have lent : ∀ (i j : Nat), l[i]? = some (AV.ref j) → ∃ d b d0 a, ρ[j]? = some (Slot.own d0 b) ∧ ρ'[j]? = some (Slot.own d b) ∧ σ[j]? = some (some (.ref a)) ∧ (∃ b', outs[i]? = some (Slot.own d b')) ∧ (vs.map some)[i]? = some (some (.ref a)) ∧ F' a = none ∧ Fr a = none ∧ OwnAt K F' H' a d := fun i j h => by
    obtain ⟨d, b, b', d0, h1, h2, h3⟩ := back_ref hb hn i j h
    obtain ⟨a, g1, g2, g3, g4⟩ := r.own j d0 b h2
    obtain ⟨a', k1, k2, k3, k4⟩ := r'.own i d b' h1
    obtain ⟨v, w1, w2⟩ := paired_at hv h
    have w2 : σ[j]? = some (some v) := w2
    rw [g1] at w2; cases w2
    rw [List.getElem?_map, w1] at k1
    cases k1
    exact ⟨d, b, d0, a, h2, h3, g1, ⟨b', h1⟩, by rw [List.getElem?_map, w1]; rfl, k2, g3, k4⟩
  have kept : ∀ (j : Nat) (d : D) (b : Bool), j ∉ refsOf l → ρ[j]? = some (Slot.own d b) → ∃ a, σ[j]? = some (some (.ref a)) ∧ F' a = none ∧ Fr a = none ∧ OwnAt K F' H' a d ∧ frOf ρ σ l Fr H a ≠ none := fun j d b hj h => by
    obtain ⟨a, g1, g2, g3, g4⟩ := r.own j d b h
    obtain ⟨o, ho⟩ := g4.there
    have e := frOf_own (Fr := Fr) (H := H) hj h g1
    rw [ho] at e
    obtain ⟨k1, k2⟩ := r'.fr a o e
    exact ⟨a, g1, k2, g3, (g4.le (.of s)).mv (by rw [k1, ho]), by rw [e]; exact fun z => by cases z⟩
  have ownB : ∀ (j : Nat) (d : D) (b : Bool), ρ'[j]? = some (Slot.own d b) → ∃ a, σ[j]? = some (some (.ref a)) ∧ F' a = none ∧ Fr a = none ∧ OwnAt K F' H' a d ∧ (∃ d0, ρ[j]? = some (Slot.own d0 b)) ∧
      (frOf ρ σ l Fr H a ≠ none ∨ ∃ (i : Nat) (b' : Bool), outs[i]? = some (Slot.own d b') ∧ (vs.map some)[i]? = some (some (.ref a))) := fun j d b h => by
    by_cases hj : j ∈ refsOf l
    · obtain ⟨i, hi⟩ := mem_refs.mp hj
      obtain ⟨d1, b1, d0, a, g1, g2, g3, ⟨b', g4⟩, g5, g6, g7, g8⟩ := lent i j hi
      rw [h] at g2; cases g2
      exact ⟨a, g3, g6, g7, g8, ⟨d0, g1⟩, .inr ⟨i, b', g4, g5⟩⟩
    · rw [back_other hb j hj] at h
      obtain ⟨a, g1, g2, g3, g4, g5⟩ := kept j d b hj h
      exact ⟨a, g1, g2, g3, g4, ⟨d, h⟩, .inl g5⟩
  refine ⟨⟨by rw [back_len hb]; exact r.len, fun j d h => ?_, fun j d b h => ?_, fun i j d b d' b' a h1 h2 s1 s2 => ?_, r'.fz, fun b u e => ?_, fun i a h => ?_⟩, fun a h1 h2 ⟨o, h3⟩ => ⟨?_, fun j d b h => ?_⟩⟩
  · by_cases hj : j ∈ refsOf l
    · obtain ⟨i, hi⟩ := mem_refs.mp hj
      obtain ⟨d1, b1, d0, a, g1, g2, _⟩ := lent i j hi
      rw [h] at g2; cases g2
    · rw [back_other hb j hj] at h
      obtain ⟨v, g1, g2⟩ := r.val j d h
      exact ⟨v, g1, g2.le (.of s)⟩
  · obtain ⟨a, g1, g2, g3, g4, _⟩ := ownB j d b h
    exact ⟨a, g1, g2, g3, g4⟩
  · obtain ⟨a1, g1, _, _, _, ⟨d0, g2⟩, _⟩ := ownB i d b h1
    obtain ⟨a2, g1', _, _, _, ⟨d0', g2'⟩, _⟩ := ownB j d' b' h2
    exact r.apart i j d0 b d0' b' a g2 g2' s1 s2
  · rcases frOf_cases (ρ := ρ) (σ := σ) (l := l) (Fr := Fr) (H := H) b with ⟨k, d1, b1, k1, k2, k3, q⟩ | q
    · obtain ⟨a, g1, _, g3, _⟩ := r.own k d1 b1 k2
      rw [k3] at g1; cases g1
      rw [g3] at e; cases e
    · exact r'.fr b u (by rw [q]; exact e)
  · obtain ⟨g1, d, g2⟩ := r.bor i a h
    refine ⟨g1, ?_⟩
    by_cases hj : i ∈ refsOf l
    · obtain ⟨i', hi⟩ := mem_refs.mp hj
      obtain ⟨d1, b1, d0, a', k1, k2, _⟩ := lent i' i hi
      rw [g2] at k1; cases k1
      exact ⟨d1, k2⟩
    · exact ⟨d, by rw [back_other hb i hj]; exact g2⟩
  · rcases frOf_cases (ρ := ρ) (σ := σ) (l := l) (Fr := Fr) (H := H) a with ⟨k, d1, b1, k1, k2, k3, q⟩ | q
    · obtain ⟨a', g1, _, _, g4⟩ := r.own k d1 b1 k2
      rw [k3] at g1; cases g1
      obtain ⟨o', ho⟩ := g4.there
      rw [q, ho] at h1; cases h1
    · rw [← q]; exact h1
  · intro z
    obtain ⟨a', g1, _, _, _, _, g6⟩ := ownB j d b h
    rw [g1] at z; cases z
    rcases g6 with g6 | ⟨i, b', g6, g7⟩
    · exact g6 h1
    · exact h2 i d b' g6 g7
/-- f(..) -/
theorem s_call (z : Z.Ok) (h : FnAt Z.X Z.cls Z.k x n sem) (hg : Gl Z.X x) (ha : SA Z (e :: es) mr) (hdb : (x == ("__debug__" : Str)) = false := by kernel_rfl) (he : starEach (e :: es) Z.X.env = (false, eval e Z.X.env) :: starEach es Z.X.env := by kernel_rfl)
    (hpl : (backTo pos (starEach es Z.X.env)).any (·.1) = false := by kernel_rfl) (hl : (e :: es).length = n := by kernel_rfl) (hml : ∀ ρ l ρ', mr ρ = some (.ok l ρ') → l.length = n) : SE Z (.Call (.Name x p) (e :: es) [] pos) (mCall sem mr) := by
  refine .mk ?_
  intro ρ σ F Fr H Q rr hq
  obtain ⟨f, fd, ps, gm, kp, hb, hps, hlen, hrun⟩ := h.ex
  intro pins s I
  refine wpAny_Call_Name_kw (ld_glob I hg gm ?_ hdb)
  refine PySem.W.callWith_K (h₀ := Z.X.base) I.ok.mod.kin kp (thn (ha ρ σ F Fr H (fun vs H1 => SpF Z.X.K Z.cls n sem vs H1 Q (L2.WE Z.W σ)) rr ?_ pos pins s I) fun us s1 ⟨vs, H1, I1, r1, q1⟩ => ⟨I1.kIn, ?_⟩) he hpl
  · simp only [mCall] at hq
    cases e1 : mr ρ with
    | none => rw [e1] at hq; exact hq
    | some o => cases o with
      | ex c ρ1 => rw [e1] at hq; exact hq
      | ok l ρ1 =>
        rw [e1] at hq
        simp only [Res.bind] at hq
        intro F1 H1 vs s1 r1 q1
        split at hq
        · rename_i ins hi
          split at hq
          · rename_i hn
            obtain ⟨B', r2, hown⟩ := enter r1 q1 hi hn
            refine ⟨by rw [Paired.length q1]; exact hml _ _ _ e1, ins, F1, _, B', r2, hown, ?_⟩
            cases es : sem ins with
            | none => rw [es] at hq; exact hq.elim
            | some o => cases o with
              | ex c outs =>
                rw [es] at hq
                simp only at hq
                cases eb : back ρ1 l outs with
                | none => rw [eb] at hq; exact hq.elim
                | some ρ2 =>
                  rw [eb] at hq
                  intro F2 H2 s2 r3
                  obtain ⟨r4, _⟩ := leave r1 q1 hn s2 r3 eb
                  exact hq F2 H2 (s1.trans s2) r4
              | rt r outs =>
                rw [es] at hq
                simp only at hq
                have nslot : ∀ i, r ≠ .slot i := fun i e => by subst e; exact hq.elim
                have hq' : PostE Z σ F Fr Q ((back ρ1 l outs).map fun ρ2 => Res.ok r ρ2) := by
                  cases r with
                  | slot i => exact hq.elim
                  | val d => exact hq
                  | own d => exact hq
                refine ⟨nslot, fun F2 H2 v s2 r3 q3 => ?_⟩
                cases eb : back ρ1 l outs with
                | none => rw [eb] at hq'; exact hq'.elim
                | some ρ2 =>
                  rw [eb] at hq'
                  obtain ⟨r4, hfree⟩ := leave r1 q1 hn s2 r3 eb
                  refine hq' F2 H2 v (s1.trans s2) r4 ?_
                  cases r with
                  | slot i => exact absurd rfl (nslot i)
                  | val d => exact q3
                  | own d =>
                    obtain ⟨a, k1, k2, k3, k4, k5⟩ := q3
                    obtain ⟨g1, g2⟩ := hfree a k3 k5 k4.there
                    exact ⟨a, k1, k2, g1, k4, g2⟩
          · exact hq.elim
        · exact hq.elim
  · have hl2 : us.length = ps.length := by rw [← r1.length]; exact hlen _ _ _ _ q1
    refine wpAny_call (codeAny_mono (hrun Z.X.A Z.X.stack s1 H1 ⟨us, []⟩ us vs Q (L2.WE Z.W σ) z.room z.gd I1.env0 (by
      have := hb s1 us I1.kIn (by simpa using hl2)
      simpa using this) r1 q1) fun r s' hr => ?_)
    cases r with
    | error e => exact passAt z.tk σ pins H1 s1 e s' I1 hr
    | ok fl =>
      cases fl with
      | ret u => exact I1.after hr
      | next => exact False.elim hr
      | brk => exact False.elim hr
      | cont => exact False.elim hr
end
end Pi
set_option maxRecDepth 100000
set_option maxHeartbeats 1000000
/-! what is walked; targets; for; comprehensions -/
namespace Pi
open PySem PySem.Spec PyProof.Rows L2

/-! ### targets -/
abbrev MG := D → Env → Option Env
/-- a slot that may be written -/
def free (ρ : Env) (i : Nat) : Bool := match ρ[i]? with
  | some .un => true
  | some (.val _) => true
  | some (.own _ b) => !b
  | none => false
def gN (i : Nat) : MG := fun d ρ => if free ρ i = true then some (ρ.set i (.val d)) else none
abbrev MGs := List D → Env → Option Env
def gsNil : MGs := fun ds ρ => match ds with
  | [] => some ρ
  | _ => none
def gsCons (g : MG) (r : MGs) : MGs := fun ds ρ => match ds with
  | d :: t => (g d ρ).bind (r t)
  | [] => none
def gT (r : MGs) : MG := fun d ρ => match d with
  | .tuple ds => r ds ρ
  | _ => none
/-- a list's items into names -/
def gTL (r : MGs) : MG := fun d ρ => match d with
  | .tuple ds => r ds ρ
  | .list ds => r ds ρ
  | _ => none
section
variable {K : PySem.W.Frag} {B : Nat → Option Addr} {ρ : Env} {F Fr H : Hp} {σ : L2.St}
/-- a slot is written -/
theorem Rel.put (r : Rel K B ρ F Fr H σ) {i : Nat} {v : V} {d : D} (hf : free ρ i = true) (h : Rp K F v d) : Rel K B (ρ.set i (.val d)) F Fr H (σ.set i (some v)) := by
  have hi : i < ρ.length := by
    unfold free at hf
    cases e : ρ[i]? with
    | none => rw [e] at hf; cases hf
    | some s => exact (List.getElem?_eq_some_iff.mp e).1
  have hi' : i < σ.length := by rw [r.len]; exact hi
  have bk : ∀ (j : Nat) (d' : D) (b : Bool), (List.set ρ i (Slot.val d))[j]? = some (Slot.own d' b) → j ≠ i ∧ ρ[j]? = some (Slot.own d' b) := fun j d' b e => by
    by_cases hj : j = i
    · subst hj; rw [List.getElem?_set_self hi] at e; cases e
    · rw [List.getElem?_set_ne (Ne.symm hj)] at e; exact ⟨hj, e⟩
  refine ⟨by rw [List.length_set, List.length_set]; exact r.len, fun j d' e => ?_, fun j d' b e => ?_, fun j k d1 b1 d2 b2 a e1 e2 s1 s2 => ?_, r.fz, r.fr, fun j a e => ?_⟩
  · by_cases hj : j = i
    · subst hj
      rw [List.getElem?_set_self hi] at e; cases e
      exact ⟨v, by rw [List.getElem?_set_self hi'], h⟩
    · rw [List.getElem?_set_ne (Ne.symm hj)] at e ⊢
      exact r.val j d' e
  · obtain ⟨nj, e⟩ := bk j d' b e
    rw [List.getElem?_set_ne (Ne.symm nj)]
    exact r.own j d' b e
  · obtain ⟨n1, e1⟩ := bk _ _ _ e1
    obtain ⟨n2, e2⟩ := bk _ _ _ e2
    rw [List.getElem?_set_ne (Ne.symm n1)] at s1
    rw [List.getElem?_set_ne (Ne.symm n2)] at s2
    exact r.apart j k d1 b1 d2 b2 a e1 e2 s1 s2
  · obtain ⟨q1, d0, q2⟩ := r.bor j a e
    have nj : j ≠ i := fun z => by
      subst z
      unfold free at hf
      rw [q2] at hf
      cases hf
    rw [List.getElem?_set_ne (Ne.symm nj), List.getElem?_set_ne (Ne.symm nj)]
    exact ⟨q1, d0, q2⟩
/-- .. by a changeable object of its own -/
theorem Rel.putOwn (r : Rel K B ρ F Fr H σ) {i : Nat} {v : V} {d : D} (hf : free ρ i = true) (h : RVRel K ρ F Fr H σ v (.own d)) : Rel K B (ρ.set i (.own d false)) F Fr H (σ.set i (some v)) := by
  obtain ⟨x, rfl, h1, h2, h3, h4⟩ := h
  have hi : i < ρ.length := by
    unfold free at hf
    cases e : ρ[i]? with
    | none => rw [e] at hf; cases hf
    | some s => exact (List.getElem?_eq_some_iff.mp e).1
  have hi' : i < σ.length := by rw [r.len]; exact hi
  have bk : ∀ (j : Nat) (d' : D) (b : Bool), (List.set ρ i (Slot.own d false))[j]? = some (Slot.own d' b) → (j = i ∧ d' = d) ∨ (j ≠ i ∧ ρ[j]? = some (Slot.own d' b)) := fun j d' b e => by
    by_cases hj : j = i
    · subst hj; rw [List.getElem?_set_self hi] at e; cases e; exact .inl ⟨rfl, rfl⟩
    · rw [List.getElem?_set_ne (Ne.symm hj)] at e; exact .inr ⟨hj, e⟩
  refine ⟨by rw [List.length_set, List.length_set]; exact r.len, fun j d' e => ?_, fun j d' b e => ?_, fun j k d1 b1 d2 b2 a e1 e2 s1 s2 => ?_, r.fz, r.fr, fun j a e => ?_⟩
  · by_cases hj : j = i
    · subst hj
      rw [List.getElem?_set_self hi] at e; cases e
    · rw [List.getElem?_set_ne (Ne.symm hj)] at e ⊢
      exact r.val j d' e
  · rcases bk j d' b e with ⟨rfl, rfl⟩ | ⟨nj, e⟩
    · exact ⟨x, by rw [List.getElem?_set_self hi'], h1, h2, h3⟩
    · rw [List.getElem?_set_ne (Ne.symm nj)]
      exact r.own j d' b e
  · rcases bk _ _ _ e1 with ⟨rfl, _⟩ | ⟨n1, e1'⟩
    · rcases bk _ _ _ e2 with ⟨rfl, _⟩ | ⟨n2, e2'⟩
      · rfl
      · rw [List.getElem?_set_self hi'] at s1; cases s1
        rw [List.getElem?_set_ne (Ne.symm n2)] at s2
        exact absurd s2 (h4 k d2 b2 e2')
    · rw [List.getElem?_set_ne (Ne.symm n1)] at s1
      rcases bk _ _ _ e2 with ⟨rfl, _⟩ | ⟨n2, e2⟩
      · rw [List.getElem?_set_self hi'] at s2; cases s2
        exact absurd s1 (h4 j d1 b1 e1')
      · rw [List.getElem?_set_ne (Ne.symm n2)] at s2
        exact r.apart j k d1 b1 d2 b2 a e1' e2 s1 s2
  · obtain ⟨q1, d0, q2⟩ := r.bor j a e
    have nj : j ≠ i := fun z => by
      subst z
      unfold free at hf
      rw [q2] at hf
      cases hf
    rw [List.getElem?_set_ne (Ne.symm nj), List.getElem?_set_ne (Ne.symm nj)]
    exact ⟨q1, d0, q2⟩
end
/-- only these slots were written -/
def Keeps (vs : List Nat) (σ σ' : L2.St) : Prop := σ'.length = σ.length ∧ ∀ j : Nat, j ∉ vs → σ'[j]? = σ[j]?
/-- the slots that a target writes -/
def SG (Z : Zx) (tg : Expr) (vs : List Nat) (g : MG) : Prop := ∀ d v ρ ρ' σ F Fr H (Q : L2.St → Hp → Prop), g d ρ = some ρ' → Rel Z.X.K Z.B ρ F Fr H σ → Rp Z.X.K F v d →
  (∀ σ', Rel Z.X.K Z.B ρ' F Fr H σ' → Keeps vs σ σ' → Q σ' H) → Cg Z.X tg v σ H Q
def Cgs (X : Cx) (ts : List Expr) : TGs := fun vs σ H Q => ∀ pins s us, Inv X pins σ H s → Vals vs us → wpAny (model X.prog X.w) X.A (assignInOrder ((assignEach ts X.env).map (·.2)) us) (fun _ s' => ∃ σ' H', Inv X pins σ' H' s' ∧ Q σ' H') X.xe s
theorem pgs_C {X : Cx} {ts : List Expr} : PGs X ts (Cgs X ts) := ⟨fun pins s σ H vs us Q I r h => h pins s us I r⟩
theorem Cgs.of {X : Cx} {ts : List Expr} {t : TGs} (h : PGs X ts t) {vs : List V} {σ : L2.St} {H : Hp} {Q : L2.St → Hp → Prop} (q : t vs σ H Q) : Cgs X ts vs σ H Q := fun pins s us I r => h.run pins s σ H vs us Q I r q
def SGs (Z : Zx) (ts : List Expr) (ws : List Nat) (g : MGs) : Prop := ∀ ds vs ρ ρ' σ F Fr H (Q : L2.St → Hp → Prop), g ds ρ = some ρ' → Rel Z.X.K Z.B ρ F Fr H σ → RpAll Z.X.K F vs ds →
  (∀ σ', Rel Z.X.K Z.B ρ' F Fr H σ' → Keeps ws σ σ' → Q σ' H) → Cgs Z.X ts vs σ H Q
section
variable {Z : Zx} {pos : Pos} {e : Expr} {es : List Expr} {g : MG} {gs : MGs} {vs ws : List Nat}
theorem g_name (i : Nat) {x : Str} (z : Z.Ok) (hN : Z.X.N[i]? = some x := by kernel_rfl) (hx : Loc Z.X.env.scope x := by exact loc_k) (hf : Z.X.fn x = true ∨ Z.X.env.scope.names.lookup x = some .local := by first | exact .inl rfl | exact .inr rfl) :
    SG Z (.Name x pos) [i] (gN i) := by
  intro d v ρ ρ' σ F Fr H Q hg r rp k
  refine Cg.of (pg_name z.nd hN hx hf) ?_
  simp only [gN] at hg
  split at hg
  · rename_i hh
    cases hg
    exact k _ (r.put hh rp) ⟨List.length_set, fun j hj => by rw [List.getElem?_set_ne (fun e => hj (by rw [← e]; exact List.mem_singleton_self _))]⟩
  · cases hg
theorem gs_nil : SGs Z [] [] gsNil := by
  intro ds vs ρ ρ' σ F Fr H Q hg r rp k
  refine Cgs.of pgs_nil ?_
  cases rp with
  | nil => simp only [gsNil] at hg; cases hg; exact ⟨rfl, k σ r ⟨rfl, fun _ _ => rfl⟩⟩
  | cons _ _ => simp [gsNil] at hg
theorem gs_cons (he : SG Z e vs g) (hr : SGs Z es ws gs) (hm : (assignEach (e :: es) Z.X.env).map (·.2) = assign e Z.X.env :: (assignEach es Z.X.env).map (·.2) := by kernel_rfl) : SGs Z (e :: es) (vs ++ ws) (gsCons g gs) := by
  intro ds us ρ ρ' σ F Fr H Q hg r rp k
  refine Cgs.of (pgs_cons pg_C pgs_C hm) ?_
  cases rp with
  | nil => simp [gsCons] at hg
  | @cons v vt d dt h t =>
    simp only [gsCons] at hg
    cases e1 : g d ρ with
    | none => rw [e1] at hg; cases hg
    | some ρ1 =>
      rw [e1] at hg
      refine ⟨v, vt, rfl, he d v ρ ρ1 σ F Fr H _ e1 r h fun σ1 r1 k1 => hr dt vt ρ1 ρ' σ1 F Fr H _ hg r1 t fun σ2 r2 k2 => k σ2 r2 ⟨k2.1.trans k1.1, fun j hj => ?_⟩⟩
      rw [k2.2 j fun z => hj (List.mem_append_right _ z), k1.2 j fun z => hj (List.mem_append_left _ z)]
end

/-! ### tuples and lists as targets -/
section
variable {Z : Zx} {pos : Pos} {es : List Expr} {gs : MGs} {ws : List Nat}
theorem gs_len : ∀ {es : List Expr} {gs : MGs} {ws : List Nat} , SGs Z es ws gs → True := fun _ => trivial
/-- a, b = a tuple; n is the number of targets -/
theorem g_tup (z : Z.Ok) {k n : Nat} (h : SGs Z es ws gs) (hn : ∀ ds ρ ρ', gs ds ρ = some ρ' → ds.length = n) (hl : (assignEach es Z.X.env).length = n := by kernel_rfl) (hst : (assignEach es Z.X.env).findIdx? (·.1) = none := by kernel_rfl) : SG Z (.Tuple es k pos) ws (gT gs) := by
  intro d v ρ ρ' σ F Fr H Q hg r rp kk
  refine Cg.of (pg_tup z.calm pgs_C hl hst) ?_
  cases d with
  | tuple ds =>
    cases rp with
    | @tup a xs _ h1 h2 =>
      have hg : gs ds ρ = some ρ' := hg
      exact ⟨a, xs, rfl, (Le.of r.fz).t h1, by rw [h2.length]; exact hn _ _ _ hg, h ds xs ρ ρ' σ F Fr H Q hg r h2 kk⟩
  | _ => cases hg
theorem g_lst (z : Z.Ok) {k n : Nat} (h : SGs Z es ws gs) (hn : ∀ ds ρ ρ', gs ds ρ = some ρ' → ds.length = n) (hl : (assignEach es Z.X.env).length = n := by kernel_rfl) (hst : (assignEach es Z.X.env).findIdx? (·.1) = none := by kernel_rfl) :
    ∀ ds v ρ ρ' σ F Fr H (Q : L2.St → Hp → Prop), gs ds ρ = some ρ' → Rel Z.X.K Z.B ρ F Fr H σ → Rp Z.X.K F v (.list ds) → (∀ σ', Rel Z.X.K Z.B ρ' F Fr H σ' → Keeps ws σ σ' → Q σ' H) → Cg Z.X (.Tuple es k pos) v σ H Q := by
  intro ds v ρ ρ' σ F Fr H Q hg r rp kk
  refine Cg.of (pg_lst z.calm pgs_C hl hst) ?_
  cases rp with
  | @lst a xs _ h1 h2 => exact ⟨a, xs, rfl, (Le.of r.fz).l h1, by rw [h2.length]; exact hn _ _ _ hg, h ds xs ρ ρ' σ F Fr H Q hg r h2 kk⟩
/-- a, b = a tuple or a list -/
theorem g_seq (z : Z.Ok) {k n : Nat} (h : SGs Z es ws gs) (hn : ∀ ds ρ ρ', gs ds ρ = some ρ' → ds.length = n) (hl : (assignEach es Z.X.env).length = n := by kernel_rfl) (hst : (assignEach es Z.X.env).findIdx? (·.1) = none := by kernel_rfl) : SG Z (.Tuple es k pos) ws (gTL gs) := by
  intro d v ρ ρ' σ F Fr H Q hg r rp kk
  cases d with
  | tuple ds => exact g_tup z h hn hl hst (.tuple ds) v ρ ρ' σ F Fr H Q hg r rp kk
  | list ds => exact g_lst z h hn hl hst ds v ρ ρ' σ F Fr H Q hg r rp kk
  | _ => cases hg
theorem gn_nil : ∀ ds ρ ρ', gsNil ds ρ = some ρ' → ds.length = 0 := fun ds ρ ρ' e => by
  cases ds with
  | nil => rfl
  | cons _ _ => simp [gsNil] at e
theorem gn_cons {g : MG} {gs : MGs} {n : Nat} (h : ∀ ds ρ ρ', gs ds ρ = some ρ' → ds.length = n) : ∀ ds ρ ρ', gsCons g gs ds ρ = some ρ' → ds.length = n + 1 := fun ds ρ ρ' e => by
  cases ds with
  | nil => simp [gsCons] at e
  | cons d t =>
    simp only [gsCons] at e
    cases e1 : g d ρ with
    | none => rw [e1] at e; cases e
    | some ρ1 => rw [e1] at e; exact congrArg (· + 1) (h t ρ1 ρ' e)
end

/-! ### what is walked -/
/-- the walk J yields the items, whatever happens meanwhile to what is not fixed -/
def ItOk (K : PySem.W.Frag) (F : Hp) (J : It) (items : List D) : Prop := ∃ (G : Hp → Prop) (Y : Nat → Hp → V → Hp → Prop), Walk J items.length G Y ∧ (∀ H, Same F H → G H) ∧
  ∀ (i : Nat) (H : Hp) (x : V) (H' : Hp) (d : D), items[i]? = some d → G H → Y i H x H' → ∀ (B : Nat → Option Addr) (ρ : Env) (F1 Fr : Hp) (σ : L2.St), Same F F1 → Rel K B ρ F1 Fr H σ → ∃ F2, Same F1 F2 ∧ Rel K B ρ F2 Fr H' σ ∧ Rp K F2 x d
def PostI (Z : Zx) (σ : L2.St) (F Fr : Hp) (R : It → Hp → Prop) : Option (Res (List D)) → Prop
  | none => False
  | some (.ok ds ρ') => ∀ F' H' J, Same F F' → Rel Z.X.K Z.B ρ' F' Fr H' σ → ItOk Z.X.K F' J ds → R J H'
  | some (.ex c ρ') => ∀ F' H', Same F F' → Rel Z.X.K Z.B ρ' F' Fr H' σ → Z.W (Z.cls c) none σ H'
abbrev MI := Env → Option (Res (List D))
structure SI (Z : Zx) (tg iter : Expr) (m : MI) : Prop where
  run : ∀ ρ σ F Fr H R, Rel Z.X.K Z.B ρ F Fr H σ → PostI Z σ F Fr R (m ρ) → Ci Z.X tg iter σ H R
instance {Z : Zx} {tg iter : Expr} {m : MI} : CoeFun (SI Z tg iter m) fun _ => (∀ ρ σ F Fr H R, Rel Z.X.K Z.B ρ F Fr H σ → PostI Z σ F Fr R (m ρ) → Ci Z.X tg iter σ H R) := ⟨SI.run⟩
/-- a list or a tuple; it is fixed from then on -/
def iSeq (m : M) : MI := fun ρ => Res.bind (m ρ) fun x ρ1 => match esc ρ1 x with
  | some (.list ds, ρ2) => if ds.length ≤ big then some (.ok ds ρ2) else none
  | some (.tuple ds, ρ2) => if ds.length ≤ big then some (.ok ds ρ2) else none
  | _ => none
def iRng1 (m : M) : MI := fun ρ => Res.bind (m ρ) fun x ρ1 => match rd ρ1 x with
  | some (.int n) => if n ≤ 1000000 ∧ -1000000 ≤ n then some (.ok ((List.range n.toNat).map fun i => .int (i : Nat)) ρ1) else none
  | _ => none
def iRng2 (m k : M) : MI := fun ρ => Res.bind (m ρ) fun x ρ1 => Res.bind (k ρ1) fun y ρ2 => match rd ρ2 x, rd ρ2 y with
  | some (.int a), some (.int b) => if -1000000 ≤ a ∧ a ≤ 1000000 ∧ -1000000 ≤ b ∧ b ≤ 1000000 ∧ (b - a).toNat ≤ big then some (.ok ((List.range (b - a).toNat).map fun i => .int (a + (i : Nat))) ρ2) else none
  | _, _ => none
theorem itok_list {K : PySem.W.Frag} {F : Hp} {a : Addr} {xs : List V} {ds : List D} (h : SqL K F a xs) (r : RpAll K F xs ds) : ItOk K F (Itl K a) ds := by
  refine ⟨fun H => SqL K H a xs, YAt xs, ?_, fun H s => (Le.of s).l h, fun i H x H' d hd _ hy B ρ F1 Fr σ s1 r1 => ?_⟩
  · rw [← r.length]; exact walk_list
  · obtain ⟨rfl, hx⟩ := hy
    obtain ⟨v, hv, rv⟩ := r.get hd
    rw [hx] at hv; cases hv
    exact ⟨F1, .refl F1, r1, rv.le (.of s1)⟩
theorem itok_tup {K : PySem.W.Frag} {F : Hp} {a : Addr} {xs : List V} {ds : List D} (h : SqT K F a xs) (r : RpAll K F xs ds) : ItOk K F (Itt K a) ds := by
  refine ⟨fun H => SqT K H a xs, YAt xs, ?_, fun H s => (Le.of s).t h, fun i H x H' d hd _ hy B ρ F1 Fr σ s1 r1 => ?_⟩
  · rw [← r.length]; exact walk_tup
  · obtain ⟨rfl, hx⟩ := hy
    obtain ⟨v, hv, rv⟩ := r.get hd
    rw [hx] at hv; cases hv
    exact ⟨F1, .refl F1, r1, rv.le (.of s1)⟩
theorem itok_rng {K : PySem.W.Frag} {F : Hp} {lo : Int} {n : Nat} : ItOk K F (Itr lo n) ((List.range n).map fun i => .int (lo + (i : Nat))) := by
  refine ⟨fun _ => True, YFn fun i => .int (lo + i), ?_, fun H s => trivial, fun i H x H' d hd _ hy B ρ F1 Fr σ s1 r1 => ?_⟩
  · rw [List.length_map, List.length_range]; exact walk_range
  · obtain ⟨rfl, rfl⟩ := hy
    rw [List.getElem?_map] at hd
    cases e : (List.range n)[i]? with
    | none => rw [e] at hd; cases hd
    | some j =>
      rw [e] at hd
      have hj : j = i := by
        obtain ⟨h1, h2⟩ := List.getElem?_eq_some_iff.mp e
        rw [← h2, List.getElem_range]
      subst hj
      cases hd
      exact ⟨F1, .refl F1, r1, .int _⟩
/-- a walked thing of two kinds: a list or a tuple -/
theorem pi_seq {X : Cx} {tg l : Expr} {tl : TE} (hl : PE X l tl) : PI X tg l (fun σ H R => tl σ H fun x H1 => ∃ a, x = .ref a ∧ (((∃ xs, SqL X.K H1 a xs) ∧ R (Itl X.K a) H1) ∨ ((∃ xs, SqT X.K H1 a xs) ∧ R (Itt X.K a) H1))) := by
  refine ⟨fun pins s σ H R I h => ?_⟩
  refine thn (hl.run pins s σ H _ I h) fun v s1 ⟨x, H1, I1, r1, a, e, q⟩ => ?_
  subst e
  cases r1
  have one : ∀ {t : TE}, PE X l t → True := fun _ => trivial
  rcases q with ⟨⟨xs, hq⟩, q⟩ | ⟨⟨xs, hq⟩, q⟩
  · obtain ⟨its, rv, p, hz⟩ := I1.list hq
    refine wpAny_pyIter_list p.isList ?_
    refine ⟨s1.heap.objs.size, [s1.heap.objs.size], _, _, H1, rfl, I1.kept (t' := s1.toks) fun b o e => Heap.get?_push_of_some _ e, turn_list a _, ⟨_, Heap.get?_push_size _ rfl, rfl, rfl⟩, fun b hb => ?_, q⟩
    rw [List.mem_singleton] at hb
    subst hb
    exact I1.fpOk (Nat.le_refl _) (I1.hok.fresh (Nat.le_refl _))
  · obtain ⟨its, rv, p, hz⟩ := I1.tuple hq
    refine wpAny_pyIter_tuple (show s1.heap.IsTuple a its.toArray from p) ?_
    refine ⟨s1.heap.objs.size, [s1.heap.objs.size], _, _, H1, rfl, I1.kept (t' := s1.toks) fun b o e => Heap.get?_push_of_some _ e, turn_tuple a _, ⟨_, Heap.get?_push_size _ rfl, rfl, rfl⟩, fun b hb => ?_, q⟩
    rw [List.mem_singleton] at hb
    subst hb
    exact I1.fpOk (Nat.le_refl _) (I1.hok.fresh (Nat.le_refl _))
section
variable {Z : Zx} {pos p : Pos} {tg e a b : Expr} {m ma mb : M}
theorem i_seq (ha : SE Z e m) : SI Z tg e (iSeq m) := by
  refine .mk ?_
  intro ρ σ F Fr H R rr h
  refine Ci.of (pi_seq pe_C) (ha ρ σ F Fr H _ rr ?_)
  simp only [iSeq] at h
  cases e1 : m ρ with
  | none => rw [e1] at h; exact h
  | some o => cases o with
    | ex c ρ1 => rw [e1] at h; exact h
    | ok x ρ1 =>
      rw [e1] at h
      simp only [Res.bind] at h
      intro F1 H1 v s1 r1 q1
      split at h
      · rename_i ds ρ2 e2
        split at h
        · rename_i hl
          obtain ⟨F2, s2, r2, rp⟩ := r1.esc q1 e2
          cases rp with
          | @lst a xs _ h1 h2 => exact ⟨a, rfl, .inl ⟨⟨xs, (Le.of r2.fz).l h1⟩, h F2 H1 _ (s1.trans s2) r2 (itok_list h1 h2)⟩⟩
        · exact h.elim
      · rename_i ds ρ2 e2
        split at h
        · rename_i hl
          obtain ⟨F2, s2, r2, rp⟩ := r1.esc q1 e2
          cases rp with
          | @tup a xs _ h1 h2 => exact ⟨a, rfl, .inr ⟨⟨xs, (Le.of r2.fz).t h1⟩, h F2 H1 _ (s1.trans s2) r2 (itok_tup h1 h2)⟩⟩
        · exact h.elim
      · exact h.elim
theorem i_rng1 (hg : Gl Z.X "range") (hm : Z.X.mg "range" = none) (ha : SE Z a ma) (hs : starEach [a] Z.X.env = [(false, eval a Z.X.env)] := by kernel_rfl) : SI Z tg (.Call (.Name "range" p) [a] [] pos) (iRng1 ma) := by
  refine .mk ?_
  intro ρ σ F Fr H R rr h
  refine Ci.of (pi_range1 hg hm (pa_cons pe_C pa_nil hs) hs) ?_
  simp only [iRng1] at h
  refine ha.use rr (fun x ρ1 e1 F1 H1 v1 s1 r1 q1 => ?_) (fun c ρ1 e1 F1 H1 s1 r1 => ?_) (fun e1 => ?_)
  · rw [e1] at h
    simp only [Res.bind] at h
    split at h
    · rename_i n ep
      split at h
      · rename_i hl
        have hv := (r1.rd (x := x.fz) q1 (by rw [rd_fz]; exact ep)).int
        subst hv
        refine ⟨n, rfl, by omega, by omega, h F1 H1 _ s1 r1 ?_⟩
        have := itok_rng (K := Z.X.K) (F := F1) (lo := 0) (n := n.toNat)
        simpa only [Int.zero_add] using this
      · exact h.elim
    · exact h.elim
  · rw [e1] at h; exact h F1 H1 s1 r1
  · rw [e1] at h; exact h
theorem i_rng2 (hg : Gl Z.X "range") (hm : Z.X.mg "range" = none) (ha : SE Z a ma) (hb : SE Z b mb) (hs : starEach [a, b] Z.X.env = [(false, eval a Z.X.env), (false, eval b Z.X.env)] := by kernel_rfl) (hs2 : starEach [b] Z.X.env = [(false, eval b Z.X.env)] := by kernel_rfl) :
    SI Z tg (.Call (.Name "range" p) [a, b] [] pos) (iRng2 ma mb) := by
  refine .mk ?_
  intro ρ σ F Fr H R rr h
  refine Ci.of (pi_range2 hg hm (pa_cons pe_C (pa_cons pe_C pa_nil hs2) (by rw [hs, hs2])) hs hs2) ?_
  simp only [iRng2] at h
  refine ha.use rr (fun x ρ1 e1 F1 H1 v1 s1 r1 q1 => ?_) (fun c ρ1 e1 F1 H1 s1 r1 => ?_) (fun e1 => ?_)
  · rw [e1] at h
    simp only [Res.bind] at h
    refine hb.use r1 (fun y ρ2 e2 F2 H2 v2 s2 r2 q2 => ?_) (fun c ρ2 e2 F2 H2 s2 r2 => ?_) (fun e2 => ?_)
    · rw [e2] at h
      simp only at h
      split at h
      · rename_i i j ep eq
        split at h
        · rename_i hl
          have hx := (r2.rd (x := x.fz) (RVRel.mv s2 q1) (by rw [rd_fz]; exact ep)).int
          have hy := (r2.rd (x := y.fz) q2 (by rw [rd_fz]; exact eq)).int
          subst hx hy
          exact ⟨i, j, rfl, ⟨by omega, by omega, by omega, by omega⟩, h F2 H2 _ (s1.trans s2) r2 itok_rng⟩
        · exact h.elim
      · exact h.elim
    · rw [e2] at h; exact h F2 H2 (s1.trans s2) r2
    · rw [e2] at h; exact h
  · rw [e1] at h; exact h F1 H1 s1 r1
  · rw [e1] at h; exact h
end
end Pi
set_option maxRecDepth 100000
set_option maxHeartbeats 1000000
/-! zip; for; list comprehensions -/
namespace Pi
open PySem PySem.Spec PyProof.Rows L2

/-! ### zip of two -/
def zipD (xs ys : List D) : List D := (xs.zip ys).map fun p => .tuple [p.1, p.2]
def iZip (a : MA) : MI := fun ρ => Res.bind (a ρ) fun l ρ1 => match l with
  | [.val (.list xs), .val (.list ys)] => if xs.length ≤ big ∧ ys.length ≤ big then some (.ok (zipD xs ys) ρ1) else none
  | [.val (.tuple xs), .val (.tuple ys)] => if xs.length ≤ big ∧ ys.length ≤ big then some (.ok (zipD xs ys) ρ1) else none
  | _ => none
theorem zipD_len (xs ys : List D) : (zipD xs ys).length = min xs.length ys.length := by simp [zipD]
theorem zipD_get {xs ys : List D} {i : Nat} {d : D} (h : (zipD xs ys)[i]? = some d) : ∃ x y, xs[i]? = some x ∧ ys[i]? = some y ∧ d = .tuple [x, y] := by
  unfold zipD at h
  rw [List.getElem?_map] at h
  cases e : (xs.zip ys)[i]? with
  | none => rw [e] at h; cases h
  | some p =>
    rw [e] at h
    cases h
    rw [List.getElem?_zip_eq_some] at e
    exact ⟨p.1, p.2, e.1, e.2, rfl⟩
theorem pair_new {K : PySem.W.Frag} {F1 H : Hp} {B : Nat → Option Addr} {ρ : Env} {Fr : Hp} {σ : L2.St} (r1 : Rel K B ρ F1 Fr H σ) {T : Addr} {x y : V} {d e : D} (hT : H T = none) (h1 : Rp K F1 x d) (h2 : Rp K F1 y e) :
    ∃ F2, Same F1 F2 ∧ Rel K B ρ F2 Fr (upd H T (.tup [x, y])) σ ∧ Rp K F2 (.ref T) (.tuple [d, e]) := by
  obtain ⟨r2, s2⟩ := r1.new (o := .tup [x, y]) hT
  exact ⟨_, s2, r2, .tup (.inl (.inl upd_same)) (.cons (h1.le (.of s2)) (.cons (h2.le (.of s2)) .nil))⟩
theorem itok_zipL {K : PySem.W.Frag} {F : Hp} {a b : Addr} {xs ys : List V} {ds es : List D} (h : SqL K F a xs) (h' : SqL K F b ys) (r : RpAll K F xs ds) (r' : RpAll K F ys es) : ItOk K F (Itz K a b) (zipD ds es) := by
  have hn : (zipD ds es).length = min xs.length ys.length := by rw [zipD_len, r.length, r'.length]
  refine ⟨fun H => SqL K H a xs ∧ SqL K H b ys, YPair (fun i => xs[i]?) (fun i => ys[i]?), walk_zip hn, fun H s => ⟨(Le.of s).l h, (Le.of s).l h'⟩, fun i H x H' d hd _ hy B ρ F1 Fr σ s1 r1 => ?_⟩
  obtain ⟨T, x, y, rfl, hT, rfl, hx, hy⟩ := hy
  obtain ⟨p, q, e1, e2, rfl⟩ := zipD_get hd
  obtain ⟨v, hv, rv⟩ := r.get e1
  obtain ⟨u, hu, ru⟩ := r'.get e2
  have hx : xs[i]? = some x := hx
  have hy : ys[i]? = some y := hy
  rw [hx] at hv; cases hv
  rw [hy] at hu; cases hu
  exact pair_new r1 hT (rv.le (.of s1)) (ru.le (.of s1))
theorem walk_zipT {K : PySem.W.Frag} {a b : Addr} {xs ys : List V} {n : Nat} (hn : n = min xs.length ys.length) : Walk (RZ.ItzT K a b) n (fun H => SqT K H a xs ∧ SqT K H b ys) (YPair (fun i => xs[i]?) (fun i => ys[i]?)) where
  goes i H hi g := by
    have h1 : i < xs.length := by omega
    have h2 : i < ys.length := by omega
    exact ⟨xs, ys, xs[i], ys[i], g.1, g.2, List.getElem?_eq_getElem h1, List.getElem?_eq_getElem h2⟩
  stops H g := ⟨xs, ys, g.1, g.2, by omega⟩
  yields i H v H' hi g y := by
    obtain ⟨T, x, y, e1, e2, e3, f1, f2⟩ := y
    exact ⟨T, x, y, e1, e2, e3, f1 xs g.1, f2 ys g.2⟩
theorem itok_zipT {K : PySem.W.Frag} {F : Hp} {a b : Addr} {xs ys : List V} {ds es : List D} (h : SqT K F a xs) (h' : SqT K F b ys) (r : RpAll K F xs ds) (r' : RpAll K F ys es) : ItOk K F (RZ.ItzT K a b) (zipD ds es) := by
  have hn : (zipD ds es).length = min xs.length ys.length := by rw [zipD_len, r.length, r'.length]
  refine ⟨fun H => SqT K H a xs ∧ SqT K H b ys, YPair (fun i => xs[i]?) (fun i => ys[i]?), walk_zipT hn, fun H s => ⟨(Le.of s).t h, (Le.of s).t h'⟩, fun i H x H' d hd _ hy B ρ F1 Fr σ s1 r1 => ?_⟩
  obtain ⟨T, x, y, rfl, hT, rfl, hx, hy⟩ := hy
  obtain ⟨p, q, e1, e2, rfl⟩ := zipD_get hd
  obtain ⟨v, hv, rv⟩ := r.get e1
  obtain ⟨u, hu, ru⟩ := r'.get e2
  have hx : xs[i]? = some x := hx
  have hy : ys[i]? = some y := hy
  rw [hx] at hv; cases hv
  rw [hy] at hu; cases hu
  exact pair_new r1 hT (rv.le (.of s1)) (ru.le (.of s1))
section
variable {Z : Zx} {pos p tpos : Pos} {a b : Expr} {mr : MA} {elts : List Expr} {kk : Nat}
theorem i_zip (hg : Gl Z.X "zip") (hm : Z.X.mg "zip" = none) (ha : SA Z [a, b] mr) (hs : starEach [a, b] Z.X.env = (false, eval a Z.X.env) :: starEach [b] Z.X.env := by kernel_rfl) (hpl : (backTo pos (starEach [b] Z.X.env)).any (·.1) = false := by kernel_rfl) :
    SI Z (.Tuple elts kk tpos) (.Call (.Name "zip" p) [a, b] [] pos) (iZip mr) := by
  refine .mk ?_
  intro ρ σ F Fr H R rr h
  refine Ci.of (RZ.pi_zipA hg hm pa_C hs hpl) (ha ρ σ F Fr H _ rr ?_)
  simp only [iZip] at h
  cases e1 : mr ρ with
  | none => rw [e1] at h; exact h
  | some o => cases o with
    | ex c ρ1 => rw [e1] at h; exact h
    | ok l ρ1 =>
      rw [e1] at h
      simp only [Res.bind] at h
      intro F1 H1 vs s1 r1 q1
      split at h
      · rename_i xs ys
        split at h
        · cases q1 with
          | cons h1 t =>
            cases t with
            | cons h2 t =>
              cases t
              cases h1 with
              | lst k1 k2 =>
                cases h2 with
                | lst k3 k4 => exact ⟨_, _, _, _, rfl, .inl ⟨(Le.of r1.fz).l k1, (Le.of r1.fz).l k3, h F1 H1 _ s1 r1 (itok_zipL k1 k3 k2 k4)⟩⟩
        · exact h.elim
      · rename_i xs ys
        split at h
        · cases q1 with
          | cons h1 t =>
            cases t with
            | cons h2 t =>
              cases t
              cases h1 with
              | tup k1 k2 =>
                cases h2 with
                | tup k3 k4 => exact ⟨_, _, _, _, rfl, .inr ⟨(Le.of r1.fz).t k1, (Le.of r1.fz).t k3, h F1 H1 _ s1 r1 (itok_zipT k1 k3 k2 k4)⟩⟩
        · exact h.elim
      · exact h.elim
end

/-! ### for -/
def forL (g : MG) (body : MS) : List D → Env → Option O
  | [], ρ => some (.nx ρ)
  | d :: r, ρ => match g d ρ with
    | none => none
    | some ρ1 => match body ρ1 with
      | some (.nx ρ2) => forL g body r ρ2
      | some (.ct ρ2) => forL g body r ρ2
      | some (.bk ρ2) => some (.nx ρ2)
      | o => o
def mFor (it : MI) (g : MG) (body : MS) : MS := fun ρ => match it ρ with
  | none => none
  | some (.ex c ρ1) => some (.ex c ρ1)
  | some (.ok ds ρ1) => forL g body ds ρ1
section
variable {Z : Zx} {pos : Pos} {tg iter : Expr} {body : List Stmt} {mi : MI} {g : MG} {mb : MS} {vs : List Nat}
theorem for_run (z : Z.Ok) {ρ : Env} {σ : L2.St} {F Fr H : Hp} {Dd : Ends} (hi : ∀ R, PostI Z σ F Fr R (mi ρ) → Ci Z.X tg iter σ H R) (hg : SG Z tg vs g) (hb : SSs Z body mb) (hs : ∀ x, foldedSetIterable iter Z.X.env x = pure x) (rr : Rel Z.X.K Z.B ρ F Fr H σ) (h : PostS Z F Fr Dd (mFor mi g mb ρ)) : Cs Z.X (.For tg iter body [] pos) Dd σ H := by
  refine Cs.of (ps_for z.pass z.calm pi_C pg_C pss_C hs) ?_
  simp only [mFor] at h
  refine hi _ ?_
  cases e1 : mi ρ with
  | none => rw [e1] at h; exact h
  | some o => cases o with
    | ex c ρ1 => rw [e1] at h; exact fun F' H' s' r' => h F' H' σ s' r'
    | ok ds ρ1 =>
      rw [e1] at h
      simp only at h
      intro F1 H1 J s1 r1 hJ
      · obtain ⟨G, Y, W, hG, hY⟩ := hJ
        refine for_it W (D := Dd) (fun i σ' H' => ∃ F' ρ', Same F1 F' ∧ Rel Z.X.K Z.B ρ' F' Fr H' σ' ∧ PostS Z F' Fr Dd (forL g mb (ds.drop i) ρ')) ⟨F1, ρ1, .refl F1, r1, by rw [List.drop_zero]; exact h.le s1⟩ (fun i σ' H' _ hp => ?_) (fun i x σ' H' H2 hi hp hy => ?_) (fun σ' H' hp => ?_)
        · obtain ⟨F', ρ', s', r', _⟩ := hp
          exact hG H' (s'.trans r'.fz)
        · obtain ⟨F', ρ', s', r', hpost⟩ := hp
          have hd : ds[i]? = some ds[i] := List.getElem?_eq_getElem hi
          obtain ⟨F2, s2, r2, rp⟩ := hY i H' x H2 _ hd (hG H' (s'.trans r'.fz)) hy Z.B ρ' F' Fr σ' s' r'
          rw [List.drop_eq_getElem_cons hi] at hpost
          simp only [forL] at hpost
          cases eg : g ds[i] ρ' with
          | none => rw [eg] at hpost; exact hpost.elim
          | some ρ2 =>
            rw [eg] at hpost
            simp only at hpost
            refine hg _ x ρ' ρ2 σ' F2 Fr H2 _ eg r2 rp fun σ2 r3 _ => hb ρ2 σ2 F2 Fr H2 _ r3 ?_
            have sF : Same F1 F2 := s'.trans s2
            have hpost := PostS.le s2 hpost
            cases eb : mb ρ2 with
            | none => rw [eb] at hpost; exact hpost
            | some o => cases o with
              | nx ρ3 => rw [eb] at hpost; exact fun F3 H3 σ3 s3 r4 => ⟨F3, ρ3, sF.trans s3, r4, hpost.le s3⟩
              | ct ρ3 => rw [eb] at hpost; exact fun F3 H3 σ3 s3 r4 => ⟨F3, ρ3, sF.trans s3, r4, hpost.le s3⟩
              | bk ρ3 => rw [eb] at hpost; exact fun F3 H3 σ3 s3 r4 => hpost F3 H3 σ3 s3 r4
              | rt r ρ3 => rw [eb] at hpost; exact hpost
              | ex c ρ3 => rw [eb] at hpost; exact hpost
        · obtain ⟨F', ρ', s', r', hpost⟩ := hp
          rw [List.drop_length] at hpost
          exact hpost F' H' σ' (.refl F') r'
theorem x_for (z : Z.Ok) (hi : SI Z tg iter mi) (hg : SG Z tg vs g) (hb : SSs Z body mb) (hs : ∀ x, foldedSetIterable iter Z.X.env x = pure x := by intro _; kernel_rfl) : SS Z (.For tg iter body [] pos) (mFor mi g mb) :=
  .mk fun ρ σ F Fr H Dd rr h => for_run z (fun R => hi ρ σ F Fr H R rr) hg hb hs rr h
end

/-! ### list comprehensions -/
def wipeE (ρ : Env) : List Nat → Env
  | [] => ρ
  | v :: vs => (wipeE ρ vs).set v .un
def restE (ρ0 ρ : Env) : List Nat → Env
  | [] => ρ
  | v :: vs => (restE ρ0 ρ vs).set v (ρ0.getD v .un)
def vfree (ρ : Env) (i : Nat) : Bool := match ρ[i]? with
  | some .un => true
  | some (.val _) => true
  | _ => false
def frees (ρ : Env) (vs : List Nat) : Bool := vs.all (vfree ρ)
def lcL (g : MG) (c : MT) (e : M) (vs : List Nat) : List D → List D → Env → Option (Res (List D))
  | [], acc, ρ => some (.ok acc ρ)
  | d :: r, acc, ρ => if frees ρ vs = true then
      match g d (wipeE ρ vs) with
      | none => none
      | some ρ1 => match c ρ1 with
        | some (.ok true ρ2) => match e ρ2 with
          | some (.ok x ρ3) => match esc ρ3 x with
            | some (y, ρ4) => lcL g c e vs r (acc ++ [y]) ρ4
            | none => none
          | _ => none
        | some (.ok false ρ2) => lcL g c e vs r acc ρ2
        | _ => none
    else none
def mYes : MT := fun ρ => some (.ok true ρ)
def lcEnd (ρ1 : Env) (vs : List Nat) : Option (Res (List D)) → Option (Res RV)
  | some (.ok acc ρ2) => if frees ρ2 vs = true then some (.ok (.own (.list acc)) (restE ρ1 ρ2 vs)) else none
  | some (.ex _ _) => none
  | none => none
def mLc (it : MI) (g : MG) (c : MT) (e : M) (vs : List Nat) : M := fun ρ => Res.bind (it ρ) fun ds ρ1 =>
  if ds.length ≤ big ∧ frees ρ1 vs = true then lcEnd ρ1 vs (lcL g c e vs ds [] ρ1) else none
section
variable {K : PySem.W.Frag} {B : Nat → Option Addr} {ρ : Env} {F Fr H : Hp} {σ : L2.St}
theorem wipeE_len (ρ : Env) : ∀ vs, (wipeE ρ vs).length = ρ.length
  | [] => rfl
  | v :: vs => by unfold wipeE; rw [List.length_set, wipeE_len ρ vs]
theorem wipeE_get : ∀ {vs : List Nat} {i : Nat} {s : Slot}, (wipeE ρ vs)[i]? = some s → (i ∈ vs ∧ s = .un) ∨ (i ∉ vs ∧ ρ[i]? = some s)
  | [], i, s, h => .inr ⟨by simp, h⟩
  | v :: vs, i, s, h => by
    unfold wipeE at h
    by_cases hv : v = i
    · subst hv
      have hl : v < (wipeE ρ vs).length := by
        have := (List.getElem?_eq_some_iff.mp h).1
        rwa [List.length_set] at this
      rw [List.getElem?_set_self hl] at h
      cases h
      exact .inl ⟨List.mem_cons_self, rfl⟩
    · rw [List.getElem?_set_ne hv] at h
      rcases wipeE_get h with ⟨h1, h2⟩ | ⟨h1, h2⟩
      · exact .inl ⟨List.mem_cons_of_mem _ h1, h2⟩
      · exact .inr ⟨fun z => (List.mem_cons.mp z).elim (fun e => hv e.symm) h1, h2⟩
theorem wipe_get : ∀ {vs : List Nat} {i : Nat}, i ∉ vs → (wipe σ vs)[i]? = σ[i]?
  | [], i, _ => rfl
  | v :: vs, i, h => by
    unfold wipe
    rw [List.getElem?_set_ne (fun e => h (by rw [e]; exact List.mem_cons_self))]
    exact wipe_get fun z => h (List.mem_cons_of_mem _ z)
theorem frees_not {vs : List Nat} (hf : frees ρ vs = true) {i : Nat} {d : D} (h : ρ[i]? = some (Slot.own d true)) : i ∉ vs := fun hm => by
  have := List.all_eq_true.mp hf i hm
  unfold vfree at this
  rw [h] at this
  cases this
/-- into the block -/
theorem Rel.wipe (r : Rel K B ρ F Fr H σ) {vs : List Nat} (hf : frees ρ vs = true) : Rel K B (wipeE ρ vs) F Fr H (L2.wipe σ vs) := by
  refine ⟨by rw [wipe_length, wipeE_len]; exact r.len, fun i d e => ?_, fun i d b e => ?_, fun i j d b d' b' a e1 e2 s1 s2 => ?_, r.fz, r.fr, fun i a e => ?_⟩
  · rcases wipeE_get e with ⟨_, z⟩ | ⟨h1, h2⟩
    · cases z
    · rw [wipe_get h1]; exact r.val i d h2
  · rcases wipeE_get e with ⟨_, z⟩ | ⟨h1, h2⟩
    · cases z
    · rw [wipe_get h1]; exact r.own i d b h2
  · rcases wipeE_get e1 with ⟨_, z⟩ | ⟨h1, h2⟩
    · cases z
    rcases wipeE_get e2 with ⟨_, z⟩ | ⟨h3, h4⟩
    · cases z
    rw [wipe_get h1] at s1
    rw [wipe_get h3] at s2
    exact r.apart i j d b d' b' a h2 h4 s1 s2
  · obtain ⟨q1, d, q2⟩ := r.bor i a e
    have h1 := frees_not hf q2
    refine ⟨by rw [wipe_get h1]; exact q1, d, ?_⟩
    cases e2 : (wipeE ρ vs)[i]? with
    | none =>
      have l1 := List.getElem?_eq_none_iff.mp e2
      rw [wipeE_len] at l1
      exact absurd (List.getElem?_eq_some_iff.mp q2).1 (by omega)
    | some s =>
      rcases wipeE_get e2 with ⟨h3, _⟩ | ⟨_, h4⟩
      · exact absurd h3 h1
      · rw [q2] at h4; cases h4; rfl
/-- the same slots, other values at the block's own names -/
theorem Rel.unsee (r : Rel K B ρ F Fr H σ) {vs : List Nat} (hf : frees ρ vs = true) {σ' : L2.St} (hw : L2.wipe σ vs = L2.wipe σ' vs) : Rel K B (wipeE ρ vs) F Fr H (L2.wipe σ' vs) := by
  rw [← hw]; exact r.wipe hf
theorem restE_len (ρ0 ρ : Env) : ∀ vs, (restE ρ0 ρ vs).length = ρ.length
  | [] => rfl
  | v :: vs => by unfold restE; rw [List.length_set, restE_len ρ0 ρ vs]
theorem restE_get {ρ0 : Env} : ∀ {vs : List Nat} {i : Nat} {s : Slot}, (restE ρ0 ρ vs)[i]? = some s → (i ∈ vs ∧ s = ρ0.getD i .un) ∨ (i ∉ vs ∧ ρ[i]? = some s)
  | [], i, s, h => .inr ⟨by simp, h⟩
  | v :: vs, i, s, h => by
    unfold restE at h
    by_cases hv : v = i
    · subst hv
      have hl : v < (restE ρ0 ρ vs).length := by
        have := (List.getElem?_eq_some_iff.mp h).1
        rwa [List.length_set] at this
      rw [List.getElem?_set_self hl] at h
      cases h
      exact .inl ⟨List.mem_cons_self, rfl⟩
    · rw [List.getElem?_set_ne hv] at h
      rcases restE_get h with ⟨h1, h2⟩ | ⟨h1, h2⟩
      · exact .inl ⟨List.mem_cons_of_mem _ h1, h2⟩
      · exact .inr ⟨fun z => (List.mem_cons.mp z).elim (fun e => hv e.symm) h1, h2⟩
/-- out of the block -/
theorem Rel.unwipe {ρ0 : Env} {F0 H0 : Hp} {σ2 : L2.St} (r0 : Rel K B ρ0 F0 Fr H0 σ) (s : Same F0 F) (r : Rel K B ρ F Fr H σ2) {vs : List Nat} (hf0 : frees ρ0 vs = true) (hf : frees ρ vs = true) (hw : L2.wipe σ2 vs = L2.wipe σ vs) : Rel K B (restE ρ0 ρ vs) F Fr H σ := by
  have same : ∀ {i : Nat}, i ∉ vs → σ2[i]? = σ[i]? := fun {i} h => by rw [← wipe_get (σ := σ2) h, ← wipe_get (σ := σ) h, hw]
  have hl : σ2.length = σ.length := by rw [← wipe_length σ2 vs, ← wipe_length σ vs, hw]
  have old : ∀ {i : Nat}, i ∈ vs → ρ0.getD i .un = .un ∨ ∃ d, ρ0.getD i .un = Slot.val d ∧ ρ0[i]? = some (Slot.val d) := fun {i} hm => by
    have := List.all_eq_true.mp hf0 i hm
    unfold vfree at this
    rw [List.getD_eq_getElem?_getD]
    cases e2 : ρ0[i]? with
    | none => exact .inl rfl
    | some s =>
      rw [e2] at this
      cases s with
      | un => exact .inl rfl
      | val d => exact .inr ⟨d, rfl, rfl⟩
      | own d b => cases this
  refine ⟨by rw [restE_len, ← r.len, hl], fun i d e => ?_, fun i d b e => ?_, fun i j d b d' b' a e1 e2 s1 s2 => ?_, r.fz, r.fr, fun i a e => ?_⟩
  · rcases restE_get e with ⟨h1, h2⟩ | ⟨h1, h2⟩
    · rcases old h1 with q | ⟨d', q1, q2⟩
      · rw [q] at h2; cases h2
      · rw [q1] at h2; cases h2
        obtain ⟨v, k1, k2⟩ := r0.val i d q2
        exact ⟨v, k1, k2.le (.of s)⟩
    · rw [← same h1]; exact r.val i d h2
  · rcases restE_get e with ⟨h1, h2⟩ | ⟨h1, h2⟩
    · rcases old h1 with q | ⟨d', q1, q2⟩
      · rw [q] at h2; cases h2
      · rw [q1] at h2; cases h2
    · rw [← same h1]; exact r.own i d b h2
  · have k1 : i ∉ vs ∧ ρ[i]? = some (Slot.own d b) := by
      rcases restE_get e1 with ⟨h1, h2⟩ | h
      · rcases old h1 with q | ⟨d', q1, q2⟩
        · rw [q] at h2; cases h2
        · rw [q1] at h2; cases h2
      · exact h
    have k2 : j ∉ vs ∧ ρ[j]? = some (Slot.own d' b') := by
      rcases restE_get e2 with ⟨h1, h2⟩ | h
      · rcases old h1 with q | ⟨d', q1, q2⟩
        · rw [q] at h2; cases h2
        · rw [q1] at h2; cases h2
      · exact h
    rw [← same k1.1] at s1
    rw [← same k2.1] at s2
    exact r.apart i j d b d' b' a k1.2 k2.2 s1 s2
  · obtain ⟨q1, d, q2⟩ := r.bor i a e
    have h1 := frees_not hf q2
    refine ⟨by rw [← same h1]; exact q1, d, ?_⟩
    cases e2 : (restE ρ0 ρ vs)[i]? with
    | none =>
      have l1 := List.getElem?_eq_none_iff.mp e2
      rw [restE_len] at l1
      exact absurd (List.getElem?_eq_some_iff.mp q2).1 (by omega)
    | some s =>
      rcases restE_get e2 with ⟨h3, _⟩ | ⟨_, h4⟩
      · exact absurd h3 h1
      · rw [q2] at h4; cases h4; rfl
end

/-- the block of a comprehension -/
abbrev Zx.blk (Z : Zx) (s : Shared) (H : Hp) (scope : Scope) (cenv : PySem.Env) (fp : List Addr) : Zx := { Z with X := Z.X.blk s H scope cenv fp, W := fun _ _ _ _ => False }
theorem Zx.Ok.blk {Z : Zx} (z : Z.Ok) (s : Shared) (H : Hp) (scope : Scope) (cenv : PySem.Env) (fp : List Addr) : (Z.blk s H scope cenv fp).Ok :=
  ⟨z.calm, z.nd, z.room, z.gd, takes0, .never⟩
theorem wipe_in {σ : L2.St} : ∀ {vs : List Nat} {j : Nat}, j ∈ vs → (L2.wipe σ vs)[j]? = if j < σ.length then some none else none
  | v :: vs, j, h => by
    unfold L2.wipe
    by_cases hv : v = j
    · subst hv
      by_cases hl : v < σ.length
      · rw [if_pos hl, List.getElem?_set_self (by rw [wipe_length]; exact hl)]
      · rw [if_neg hl, List.getElem?_eq_none (by rw [List.length_set, wipe_length]; omega)]
    · rw [List.getElem?_set_ne hv]
      exact wipe_in ((List.mem_cons.mp h).resolve_left fun e => hv e.symm)
theorem Keeps.wipe {vs : List Nat} {σ σ' : L2.St} (k : Keeps vs σ σ') : L2.wipe σ' vs = L2.wipe σ vs := List.ext_getElem? fun j => by
  by_cases hj : j ∈ vs
  · rw [wipe_in hj, wipe_in hj, k.1]
  · rw [wipe_get hj, wipe_get hj, k.2 j hj]
theorem wipe_wipe (σ : L2.St) (vs : List Nat) : L2.wipe (L2.wipe σ vs) vs = L2.wipe σ vs := List.ext_getElem? fun j => by
  by_cases hj : j ∈ vs
  · rw [wipe_in hj, wipe_in hj, wipe_length]
  · rw [wipe_get hj]
section
variable {Z : Zx} {pos pos' : Pos} {tg iter elt : Expr} {ifs : List Expr} {scope : Scope} {own : List (Str × Nat)} {mi : MI} {g : MG} {mc : MT} {me : M} {vs : List Nat}
/-- a clause's tests -/
structure STs (Z : Zx) (ifs : List Expr) (m : MT) : Prop where
  run : ∀ ρ σ F Fr H Q, Rel Z.X.K Z.B ρ F Fr H σ → PostT Z σ F Fr Q (m ρ) →
  ∀ pins s, Inv Z.X pins σ H s → wpAny (model Z.X.prog Z.X.w) Z.X.A (forIn ifs true fun c r => if r = true then do let ok ← PySem.isTrue c Z.X.env (eval c Z.X.env); pure (ForInStep.yield ok) else pure (ForInStep.yield r)) (TP Z.X pins σ Q) Z.X.xe s
instance {Z : Zx} {ifs : List Expr} {m : MT} : CoeFun (STs Z ifs m) fun _ => (∀ ρ σ F Fr H Q, Rel Z.X.K Z.B ρ F Fr H σ → PostT Z σ F Fr Q (m ρ) →
  ∀ pins s, Inv Z.X pins σ H s → wpAny (model Z.X.prog Z.X.w) Z.X.A (forIn ifs true fun c r => if r = true then do let ok ← PySem.isTrue c Z.X.env (eval c Z.X.env); pure (ForInStep.yield ok) else pure (ForInStep.yield r)) (TP Z.X pins σ Q) Z.X.xe s) := ⟨STs.run⟩
theorem ts_nil : STs Z [] mYes := .mk fun ρ σ F Fr H Q rr h pins s I => pts_nil.run pins s σ H Q I (h F H (.refl F) rr)
theorem ts_one {c : Expr} (hc : ST Z c mc) : STs Z [c] mc := .mk fun ρ σ F Fr H Q rr h pins s I => (pts_one pt_C).run pins s σ H Q I (hc ρ σ F Fr H Q rr h)
/-- the readings in any block of this scope -/
def Bg (X : Cx) (scope : Scope) (tg : Expr) : TG := fun v σ H' Q => ∀ s H C cl fp, Cg (X.blk s H scope (compEnvC scope cl C X.env) fp) tg v σ H' Q
def Be (X : Cx) (scope : Scope) (elt : Expr) : TE := fun σ H' Q => ∀ s H C cl fp, Ce (X.blk s H scope (compEnvC scope cl C X.env) fp) elt σ H' Q
def Bt (X : Cx) (scope : Scope) (ifs : List Expr) : TT := fun σ H' Q => ∀ s0 H C cl fp pins s, Inv (X.blk s0 H scope (compEnvC scope cl C X.env) fp) pins σ H' s → wpAny (model X.prog X.w) X.A
  (forIn ifs true fun c r => if r = true then do let ok ← PySem.isTrue c (compEnvC scope cl C X.env) (eval c (compEnvC scope cl C X.env)); pure (ForInStep.yield ok) else pure (ForInStep.yield r)) (TP (X.blk s0 H scope (compEnvC scope cl C X.env) fp) pins σ Q) (fun _ _ => False) s
/-- an object held aside grows -/
theorem Rel.grow {K : PySem.W.Frag} {B : Nat → Option Addr} {ρ : Env} {F Fr H : Hp} {σ : L2.St} (r : Rel K B ρ F Fr H σ) {a : Addr} {o o' : HO} (ha : H a = some o) (fa : F a = none) (fr : Fr a = none)
    (ne : ∀ (i : Nat) (d' : D) (b : Bool), ρ[i]? = some (Slot.own d' b) → σ[i]? ≠ some (some (.ref a))) : Rel K B ρ F (upd Fr a o') (upd H a o') σ := by
  refine ⟨r.len, r.val, fun i d b e => ?_, r.apart, fun b u e => ?_, fun b u e => ?_, r.bor⟩
  · obtain ⟨a', q1, q2, q3, q4⟩ := r.own i d b e
    have n : a' ≠ a := fun z => ne i d b e (by rw [q1, z])
    exact ⟨a', q1, q2, by rw [upd_ne n]; exact q3, q4.mv (upd_ne n)⟩
  · have n : b ≠ a := fun z => by subst z; rw [fa] at e; cases e
    rw [upd_ne n]; exact r.fz _ _ e
  · by_cases hb : b = a
    · subst hb; rw [upd_same] at e ⊢; exact ⟨e, fa⟩
    · rw [upd_ne hb] at e ⊢; exact r.fr b u e
/-- [elt for tg in iter if ..] -/
theorem lc_run (z : Z.Ok) {ρ : Env} {σ : L2.St} {F Fr H : Hp} {Q : VK} (hi : ∀ R, PostI Z σ F Fr R (mi ρ) → Ci Z.X tg iter σ H R)
    (hg : ∀ (s : Shared) (H : Hp) (C : Addr) (cl : List (Str × Addr)) (fp : List Addr), SG (Z.blk s H scope (compEnvC scope cl C Z.X.env) fp) tg vs g) (ht : ∀ (s : Shared) (H : Hp) (C : Addr) (cl : List (Str × Addr)) (fp : List Addr), STs (Z.blk s H scope (compEnvC scope cl C Z.X.env) fp) ifs mc)
    (he : ∀ (s : Shared) (H : Hp) (C : Addr) (cl : List (Str × Addr)) (fp : List Addr), SE (Z.blk s H scope (compEnvC scope cl C Z.X.env) fp) elt me) (rr : Rel Z.X.K Z.B ρ F Fr H σ)
    (h : PostE Z σ F Fr Q (mLc mi g mc me vs ρ)) : tLc (Ci Z.X tg iter) (Bg Z.X scope tg) (Bt Z.X scope ifs) (Be Z.X scope elt) vs σ H Q := by
  simp only [mLc] at h
  refine hi _ ?_
  cases e1 : mi ρ with
  | none => rw [e1] at h; exact h
  | some o => cases o with
    | ex c ρ1 => rw [e1] at h; exact h
    | ok ds ρ1 =>
      rw [e1] at h
      simp only [Res.bind] at h
      intro F1 H1 J s1 r1 hJ Dl hD
      obtain ⟨G, Y, W, hG, hY⟩ := hJ
      split at h
      · rename_i hlen
        -- the list that is made is held aside
        obtain ⟨f1, f2⟩ := r1.fnone hD
        refine lc_it W (g := Bg Z.X scope tg) (tt := Bt Z.X scope ifs) (te := Be Z.X scope elt) (vs := vs) (σ := σ) (H1 := H1) (D := Dl) (Qd := fun H => Q (.ref Dl) H)
          (fun i H' => ∃ F' ρ' acc xs, Same F1 F' ∧ H' Dl = some (.lst xs) ∧ RpAll Z.X.K F' xs acc ∧ acc.length ≤ i ∧ (∃ σ', L2.wipe σ' vs = L2.wipe σ vs ∧ Rel Z.X.K Z.B ρ' F' (upd Fr Dl (.lst xs)) H' σ') ∧
          PostE Z σ F1 Fr Q (lcEnd ρ1 vs (lcL g mc me vs (ds.drop i) acc ρ'))) ?_ ?_ ?_ ?_
        · refine ⟨F1, ρ1, [], [], .refl F1, upd_same, .nil, Nat.le_refl _, ⟨σ, rfl, ?_⟩, by rw [List.drop_zero]; exact h.le s1⟩
          exact (r1.newOwn (o := .lst []) hD).hold upd_same f1 f2 (r1.slotne hD)
        · rintro i H' _ ⟨F', ρ', acc, xs, s', _, _, _, ⟨σ', _, r'⟩, _⟩
          exact hG H' (s'.trans r'.fz)
        · rintro i x H' H2 hi ⟨F', ρ', acc, xs, s', hx, hacc, hal, ⟨σ', hw, r'⟩, hpost⟩ hy
          have hd : ds[i]? = some ds[i] := List.getElem?_eq_getElem hi
          rw [List.drop_eq_getElem_cons hi] at hpost
          simp only [lcL] at hpost
          by_cases hfr : frees ρ' vs = true
          rotate_left
          · rw [if_neg hfr] at hpost; exact hpost.elim
          rw [if_pos hfr] at hpost
          have rw1 := r'.unsee hfr hw
          obtain ⟨F2, s2, r2, rp⟩ := hY i H' x H2 _ hd (hG H' (s'.trans r'.fz)) hy Z.B (wipeE ρ' vs) F' _ _ s' rw1
          intro s H C cl fp
          cases eg : g ds[i] (wipeE ρ' vs) with
          | none => rw [eg] at hpost; exact hpost.elim
          | some ρ2 =>
            rw [eg] at hpost
            simp only at hpost
            refine hg s H C cl fp _ x _ ρ2 _ F2 _ H2 _ eg r2 rp fun σ2 r3 keep => ?_
            have hw2 : L2.wipe σ2 vs = L2.wipe σ vs := keep.wipe.trans (wipe_wipe σ vs)
            refine ⟨hw2, fun s0 H0 C0 cl0 fp0 => ?_⟩
            refine ht s0 H0 C0 cl0 fp0 ρ2 σ2 F2 _ H2 _ r3 ?_
            cases ec : mc ρ2 with
            | none => rw [ec] at hpost; exact hpost.elim
            | some o => cases o with
              | ex c ρ3 => rw [ec] at hpost; exact hpost.elim
              | ok b ρ3 =>
                rw [ec] at hpost
                intro F3 H3 s3 r4
                cases b with
                | false =>
                  simp only at hpost
                  refine iteF ⟨F3, ρ3, acc, xs, (s'.trans s2).trans s3, (r4.fr Dl _ upd_same).1, hacc.le (.of (s2.trans s3)), Nat.le_succ_of_le hal, ⟨σ2, hw2, r4⟩, hpost⟩
                | true =>
                  simp only at hpost
                  refine iteT fun s4 H4 C4 cl4 fp4 => he s4 H4 C4 cl4 fp4 ρ3 σ2 F3 _ H3 _ r4 ?_
                  cases ee : me ρ3 with
                  | none => rw [ee] at hpost; exact hpost.elim
                  | some o => cases o with
                    | ex c ρ4 => rw [ee] at hpost; exact hpost.elim
                    | ok y ρ4 =>
                      rw [ee] at hpost
                      simp only at hpost
                      cases ey : esc ρ4 y with
                      | none => rw [ey] at hpost; exact hpost.elim
                      | some p =>
                        obtain ⟨d', ρ5⟩ := p
                        rw [ey] at hpost
                        simp only at hpost
                        intro F4 H5 v s5 r5 q5
                        obtain ⟨F5, s6, r6, rp6⟩ := r5.esc q5 ey
                        obtain ⟨k1, k2⟩ := r6.fr Dl _ upd_same
                        have sAll : Same F' F5 := ((s2.trans s3).trans s5).trans s6
                        have hxl : xs.length = acc.length := hacc.length
                        refine ⟨xs, k1, by rw [hxl]; exact Nat.lt_of_le_of_lt (Nat.le_trans hal (Nat.le_trans (Nat.le_of_lt hi) hlen.1)) big_lt, F5, ρ5, acc ++ [d'], xs ++ [v], s'.trans sAll, upd_same,
                          (hacc.le (.of sAll)).append (.cons rp6 .nil), by rw [List.length_append]; exact Nat.succ_le_succ hal, ⟨σ2, hw2, ?_⟩, hpost⟩
                        obtain ⟨r7, _, h8, h9⟩ := r6.unhold f2
                        exact r7.grow k1 h8 f2 h9
        · rintro H' ⟨F', ρ', acc, xs, s', hx, hacc, hal, ⟨σ', hw, r'⟩, hpost⟩
          rw [List.drop_length] at hpost
          simp only [lcL, lcEnd] at hpost
          split at hpost
          · rename_i hfr
            obtain ⟨r2, h1, h2, h3⟩ := r'.unhold f2
            have r3 := r1.unwipe (σ2 := σ') s' r2 hlen.2 hfr hw
            refine hpost F' H' _ s' r3 ⟨Dl, rfl, h2, f2, ⟨xs, hx, hacc⟩, fun j d b e => ?_⟩
            rcases restE_get e with ⟨k1, k2⟩ | ⟨k1, k2⟩
            · have := List.all_eq_true.mp hlen.2 j k1
              unfold vfree at this
              rw [List.getD_eq_getElem?_getD] at k2
              cases e5 : ρ1[j]? with
              | none => rw [e5] at k2; cases k2
              | some s =>
                rw [e5] at k2 this
                have k2 : Slot.own d b = s := k2
                subst k2
                cases this
            · have e6 : σ'[j]? = σ[j]? := by rw [← wipe_get (σ := σ') k1, ← wipe_get (σ := σ) k1, hw]
              rw [← e6]
              exact h3 j d b k2
          · exact hpost.elim
      · exact h.elim
theorem s_lc (z : Z.Ok) (hi : SI Z tg iter mi) (ok : BlkOk Z.X.N Z.X.env.scope scope own) (hv : own.map (·.2) = vs)
    (hg : ∀ (s : Shared) (H : Hp) (C : Addr) (cl : List (Str × Addr)) (fp : List Addr), SG (Z.blk s H scope (compEnvC scope cl C Z.X.env) fp) tg vs g) (ht : ∀ (s : Shared) (H : Hp) (C : Addr) (cl : List (Str × Addr)) (fp : List Addr), STs (Z.blk s H scope (compEnvC scope cl C Z.X.env) fp) ifs mc)
    (he : ∀ (s : Shared) (H : Hp) (C : Addr) (cl : List (Str × Addr)) (fp : List Addr), SE (Z.blk s H scope (compEnvC scope cl C Z.X.env) fp) elt me) (hs : ∀ x, foldedSetIterable iter Z.X.env x = pure x := by intro _; kernel_rfl) :
    SE Z (.ListComp elt [⟨tg, iter, ifs, 0⟩] scope pos) (mLc mi g mc me vs) := by
  refine .mk ?_
  intro ρ σ F Fr H Q rr h
  refine Ce.of (pe_lc (g := Bg Z.X scope tg) (tt := Bt Z.X scope ifs) (te := Be Z.X scope elt) z.calm z.nd pi_C ok (fun s H C cl fp => ⟨fun pins s' σ H' v u Q I r h => h s H C cl fp pins s' u I r⟩)
    (fun s H C cl fp => ⟨fun pins s' σ H' Q I h => h s H C cl fp pins s' I⟩) (fun s H C cl fp => ⟨fun pins s' σ H' Q I h => h s H C cl fp pins s' I⟩) hs) ?_
  rw [hv]
  exact lc_run z (fun R => hi ρ σ F Fr H R rr) hg ht he rr h
/-- y = [..] on one line, y a local -/
theorem x_setLc (z : Z.Ok) (i : Nat) {y : Str} {py spos : Pos} (hy : Z.X.N[i]? = some y) (hyl : Z.X.env.scope.names.lookup y = some .local) (hsw : swapsWith (.ListComp elt [⟨tg, iter, ifs, 0⟩] scope pos) (some (.Name y py)) spos.line Z.X.env = pure true)
    (hi : SI Z tg iter mi) (ok : BlkOk Z.X.N Z.X.env.scope scope own) (hv : own.map (·.2) = vs)
    (hg : ∀ (s : Shared) (H : Hp) (C : Addr) (cl : List (Str × Addr)) (fp : List Addr), SG (Z.blk s H scope (compEnvC scope cl C Z.X.env) fp) tg vs g) (ht : ∀ (s : Shared) (H : Hp) (C : Addr) (cl : List (Str × Addr)) (fp : List Addr), STs (Z.blk s H scope (compEnvC scope cl C Z.X.env) fp) ifs mc)
    (he : ∀ (s : Shared) (H : Hp) (C : Addr) (cl : List (Str × Addr)) (fp : List Addr), SE (Z.blk s H scope (compEnvC scope cl C Z.X.env) fp) elt me) (hs : ∀ x, foldedSetIterable iter Z.X.env x = pure x := by intro _; kernel_rfl)
    {ρ : Env} {σ : L2.St} {F Fr H : Hp} {Dd : Ends} (rr : Rel Z.X.K Z.B ρ F Fr H σ) (h : PostE Z σ F Fr (fun x H1 => gName i x σ H1 Dd.nx) (mLc mi g mc me vs ρ)) : Cs Z.X (.Assign [.Name y py] (.ListComp elt [⟨tg, iter, ifs, 0⟩] scope pos) spos) Dd σ H := by
  refine Cs.of (ps_setLc (i := i) (g := Bg Z.X scope tg) (tt := Bt Z.X scope ifs) (te := Be Z.X scope elt) z.calm z.nd hy hyl hsw pi_C ok (fun s H C cl fp => ⟨fun pins s' σ H' v u Q I r h => h s H C cl fp pins s' u I r⟩)
    (fun s H C cl fp => ⟨fun pins s' σ H' Q I h => h s H C cl fp pins s' I⟩) (fun s H C cl fp => ⟨fun pins s' σ H' Q I h => h s H C cl fp pins s' I⟩) hs) ?_
  show tLc _ _ _ _ (own.map (·.2)) σ H (fun x H1 => gName i x σ H1 Dd.nx)
  rw [hv]
  exact lc_run z (fun R => hi ρ σ F Fr H R rr) hg ht he rr h
end
end Pi
set_option maxRecDepth 100000
set_option maxHeartbeats 1000000
/-! statements -/
namespace Pi
open PySem PySem.Spec PyProof.Rows L2

/-- a result into a slot -/
def putR (i : Nat) (r : RV) (ρ : Env) : Option Env := match r with
  | .val d => if free ρ i = true then some (ρ.set i (.val d)) else none
  | .own d => if free ρ i = true then some (ρ.set i (.own d false)) else none
  | .slot j => match esc ρ (.slot j) with
    | some (d, ρ1) => if free ρ1 i = true then some (ρ1.set i (.val d)) else none
    | none => none
def mSet (i : Nat) (m : M) : MS := fun ρ => match m ρ with
  | none => none
  | some (.ex c ρ1) => some (.ex c ρ1)
  | some (.ok r ρ1) => (putR i r ρ1).map .nx
def mSeq (a b : MS) : MS := fun ρ => match a ρ with
  | some (.nx ρ1) => b ρ1
  | o => o
def mSkip : MS := fun ρ => some (.nx ρ)
def mIf (t : MT) (a b : MS) : MS := fun ρ => match t ρ with
  | none => none
  | some (.ex c ρ1) => some (.ex c ρ1)
  | some (.ok x ρ1) => if x = true then a ρ1 else b ρ1
def mRet (m : M) : MS := fun ρ => match m ρ with
  | none => none
  | some (.ex c ρ1) => some (.ex c ρ1)
  | some (.ok r ρ1) => some (.rt r ρ1)
def mExpr (m : M) : MS := fun ρ => match m ρ with
  | none => none
  | some (.ex c ρ1) => some (.ex c ρ1)
  | some (.ok _ ρ1) => some (.nx ρ1)
def mUnp (g : MG) (m : M) : MS := fun ρ => match m ρ with
  | none => none
  | some (.ex c ρ1) => some (.ex c ρ1)
  | some (.ok r ρ1) => match esc ρ1 r with
    | some (d, ρ2) => (g d ρ2).map .nx
    | none => none
def mRaise (c : Nat) : MS := fun ρ => some (.ex c ρ)
def mBrk : MS := fun ρ => some (.bk ρ)
def mCnt : MS := fun ρ => some (.ct ρ)
section
variable {K : PySem.W.Frag} {B : Nat → Option Addr} {ρ : Env} {F Fr H : Hp} {σ : L2.St}
theorem Rel.putR (r : Rel K B ρ F Fr H σ) {i : Nat} {v : V} {x : RV} {ρ' : Env} (h : RVRel K ρ F Fr H σ v x) (e : Pi.putR i x ρ = some ρ') : ∃ F', Same F F' ∧ Rel K B ρ' F' Fr H (σ.set i (some v)) := by
  cases x with
  | val d =>
    simp only [Pi.putR] at e
    split at e
    · rename_i hf; cases e; exact ⟨F, .refl F, r.put hf h⟩
    · cases e
  | own d =>
    simp only [Pi.putR] at e
    split at e
    · rename_i hf; cases e; exact ⟨F, .refl F, r.putOwn hf h⟩
    · cases e
  | slot j =>
    simp only [Pi.putR] at e
    split at e
    · rename_i d ρ1 e1
      obtain ⟨F', s', r', rp⟩ := r.esc h e1
      split at e
      · rename_i hf; cases e; exact ⟨F', s', r'.put hf rp⟩
      · cases e
    · cases e
end
section
variable {Z : Zx} {pos pos' : Pos} {e c tg : Expr} {st : Stmt} {body rest a b : List Stmt} {m : M} {ma mb ms : MS} {mt : MT} {g : MG} {vs : List Nat} {x : Str}
theorem x_nil : SSs Z [] mSkip := .mk fun ρ σ F Fr H Dd rr h => Css.of pss_nil (h F H σ (.refl F) rr)
theorem PostS_seq {ρ : Env} {F Fr : Hp} {Dd : Ends} {σ0 : L2.St} {u : TS} (h : PostS Z F Fr Dd (mSeq ma mb ρ)) (hb : ∀ ρ1 F1 H1 σ1, Same F F1 → Rel Z.X.K Z.B ρ1 F1 Fr H1 σ1 → PostS Z F1 Fr Dd (mb ρ1) → u Dd σ1 H1) : PostS Z F Fr { Dd with nx := u Dd } (ma ρ) := by
  simp only [mSeq] at h
  cases e1 : ma ρ with
  | none => rw [e1] at h; exact h
  | some o => cases o with
    | nx ρ1 => rw [e1] at h; exact fun F' H' σ' s' r' => hb ρ1 F' H' σ' s' r' (PostS.le s' h)
    | rt r ρ1 => rw [e1] at h; exact h
    | bk ρ1 => rw [e1] at h; exact h
    | ct ρ1 => rw [e1] at h; exact h
    | ex c ρ1 => rw [e1] at h; exact h
theorem x_cons (h1 : SS Z st ma) (h2 : SSs Z rest mb) : SSs Z (st :: rest) (mSeq ma mb) := .mk fun ρ σ F Fr H Dd rr h =>
  Css.of (pss_cons ps_C pss_C) (h1 ρ σ F Fr H _ rr (PostS_seq (u := Css Z.X rest) (σ0 := σ) h fun ρ1 F1 H1 σ1 s1 r1 hp => h2 ρ1 σ1 F1 Fr H1 Dd r1 hp))
theorem x_one (h1 : SS Z st ma) : SSs Z [st] ma := .mk fun ρ σ F Fr H Dd rr h => Css.of (pss_one ps_C) (h1 ρ σ F Fr H Dd rr h)
theorem x_pass : SS Z (.Pass pos) mSkip := .mk fun ρ σ F Fr H Dd rr h => Cs.of ps_pass (h F H σ (.refl F) rr)
theorem x_break : SS Z (.Break pos) mBrk := .mk fun ρ σ F Fr H Dd rr h => Cs.of ps_break (h F H σ (.refl F) rr)
theorem x_continue : SS Z (.Continue pos) mCnt := .mk fun ρ σ F Fr H Dd rr h => Cs.of ps_continue (h F H σ (.refl F) rr)
theorem x_if (hc : ST Z c mt) (ha : SSs Z a ma) (hb : SSs Z b mb) : SS Z (.If c a b pos) (mIf mt ma mb) := by
  refine .mk ?_
  intro ρ σ F Fr H Dd rr h
  refine Cs.of (ps_if pt_C pss_C pss_C) (hc ρ σ F Fr H _ rr ?_)
  simp only [mIf] at h
  cases e1 : mt ρ with
  | none => rw [e1] at h; exact h
  | some o => cases o with
    | ex c ρ1 => rw [e1] at h; exact fun F' H' s' r' => h F' H' σ s' r'
    | ok y ρ1 =>
      rw [e1] at h
      intro F' H' s' r'
      cases y with
      | true => exact iteT (ha ρ1 σ F' Fr H' Dd r' (PostS.le s' h))
      | false => exact iteF (hb ρ1 σ F' Fr H' Dd r' (PostS.le s' h))
theorem x_ret (ha : SE Z e m) : SS Z (.Return (some e) pos) (mRet m) := by
  refine .mk ?_
  intro ρ σ F Fr H Dd rr h
  refine Cs.of (ps_ret pe_C) (ha ρ σ F Fr H _ rr ?_)
  simp only [mRet] at h
  cases e1 : m ρ with
  | none => rw [e1] at h; exact h
  | some o => cases o with
    | ex c ρ1 => rw [e1] at h; exact fun F' H' s' r' => h F' H' σ s' r'
    | ok y ρ1 => rw [e1] at h; exact fun F' H' v s' r' q' => h F' H' σ v s' r' q'
theorem x_expr (ha : SE Z e m) (hs : swapsWith e none pos.line Z.X.env = pure false := by kernel_rfl) : SS Z (.Expr e pos) (mExpr m) := by
  refine .mk ?_
  intro ρ σ F Fr H Dd rr h
  refine Cs.of (ps_expr pe_C hs) (ha ρ σ F Fr H _ rr ?_)
  simp only [mExpr] at h
  cases e1 : m ρ with
  | none => rw [e1] at h; exact h
  | some o => cases o with
    | ex c ρ1 => rw [e1] at h; exact fun F' H' s' r' => h F' H' σ s' r'
    | ok y ρ1 => rw [e1] at h; exact fun F' H' v s' r' q' => h F' H' σ s' r'
theorem mSet_post {i : Nat} {ρ : Env} {σ : L2.St} {F Fr : Hp} {Dd : Ends} (h : PostS Z F Fr Dd (mSet i m ρ)) : PostE Z σ F Fr (fun x H1 => gName i x σ H1 Dd.nx) (m ρ) := by
  simp only [mSet] at h
  cases e1 : m ρ with
  | none => rw [e1] at h; exact h
  | some o => cases o with
    | ex c ρ1 => rw [e1] at h; exact fun F' H' s' r' => h F' H' σ s' r'
    | ok y ρ1 =>
      rw [e1] at h
      simp only at h
      cases ep : putR i y ρ1 with
      | none => rw [ep] at h; exact h.elim
      | some ρ2 =>
        rw [ep] at h
        intro F' H' v s' r' q'
        obtain ⟨F2, s2, r2⟩ := r'.putR q' ep
        exact h F2 H' _ (s'.trans s2) r2
theorem x_set (z : Z.Ok) (i : Nat) (ha : SE Z e m) (hN : Z.X.N[i]? = some x := by kernel_rfl) (hx : Loc Z.X.env.scope x := by exact loc_k) (hs : swapsWith e (some (.Name x pos')) pos.line Z.X.env = pure false := by kernel_rfl)
    (hf : Z.X.fn x = true ∨ Z.X.env.scope.names.lookup x = some .local := by first | exact .inl rfl | exact .inr rfl) : SS Z (.Assign [.Name x pos'] e pos) (mSet i m) := .mk fun ρ σ F Fr H Dd rr h =>
  Cs.of (ps_set z.nd hN hx pe_C hs hf) (ha ρ σ F Fr H _ rr (mSet_post h))
theorem x_setC {tg' iter elt : Expr} {ifs : List Expr} {scope : Scope} {own : List (Str × Nat)} {mi : MI} {mc : MT} {me : M} {py spos : Pos} {y : Str} (z : Z.Ok) (i : Nat)
    (hi : SI Z tg' iter mi) (ok : BlkOk Z.X.N Z.X.env.scope scope own) (hv : own.map (·.2) = vs)
    (hg : ∀ (s : Shared) (H : Hp) (C : Addr) (cl : List (Str × Addr)) (fp : List Addr), SG (Z.blk s H scope (compEnvC scope cl C Z.X.env) fp) tg' vs g) (ht : ∀ (s : Shared) (H : Hp) (C : Addr) (cl : List (Str × Addr)) (fp : List Addr), STs (Z.blk s H scope (compEnvC scope cl C Z.X.env) fp) ifs mc)
    (he : ∀ (s : Shared) (H : Hp) (C : Addr) (cl : List (Str × Addr)) (fp : List Addr), SE (Z.blk s H scope (compEnvC scope cl C Z.X.env) fp) elt me)
    (hsw : swapsWith (.ListComp elt [⟨tg', iter, ifs, 0⟩] scope pos) (some (.Name y py)) spos.line Z.X.env = pure true) (hy : Z.X.N[i]? = some y := by kernel_rfl) (hyl : Z.X.env.scope.names.lookup y = some .local := by kernel_rfl)
    (hs : ∀ x, foldedSetIterable iter Z.X.env x = pure x := by intro _; kernel_rfl) : SS Z (.Assign [.Name y py] (.ListComp elt [⟨tg', iter, ifs, 0⟩] scope pos) spos) (mSet i (mLc mi g mc me vs)) := .mk fun ρ σ F Fr H Dd rr h =>
  x_setLc z i hy hyl hsw hi ok hv hg ht he hs rr (mSet_post h)
theorem x_unp (hg : SG Z tg vs g) (ha : SE Z e m) (h1 : swapsWithSole [tg] e pos.line Z.X.env = pure false := by kernel_rfl) (h2 : swappedStores [tg] e Z.X.env = pure none := by kernel_rfl) (h3 : (assignEach [tg] Z.X.env).map (·.2) = [assign tg Z.X.env] := by kernel_rfl) :
    SS Z (.Assign [tg] e pos) (mUnp g m) := by
  refine .mk ?_
  intro ρ σ F Fr H Dd rr h
  refine Cs.of (ps_asg pe_C pg_C h1 h2 h3) (ha ρ σ F Fr H _ rr ?_)
  simp only [mUnp] at h
  cases e1 : m ρ with
  | none => rw [e1] at h; exact h
  | some o => cases o with
    | ex c ρ1 => rw [e1] at h; exact fun F' H' s' r' => h F' H' σ s' r'
    | ok y ρ1 =>
      rw [e1] at h
      simp only at h
      intro F' H' v s' r' q'
      split at h
      · rename_i d ρ2 ee
        obtain ⟨F2, s2, r2, rp⟩ := r'.esc q' ee
        cases eg : g d ρ2 with
        | none => rw [eg] at h; exact h.elim
        | some ρ3 =>
          rw [eg] at h
          exact hg d v ρ2 ρ3 σ F2 Fr H' _ eg r2 rp fun σ' r3 _ => h F2 H' σ' (s'.trans s2) r3
      · exact h.elim
/-! ### raise -/
theorem x_raise {C : Addr} {bmB : List Value} {newId initId Bn : String} {mm : Str} {j k : Nat} {p p2 q : Pos} (z : Z.Ok) (FF : ExcBaseFacts Bn newId initId bmB) (hx : PySem.W.excIn Z.X.K C bmB newId = true) (gC : Z.X.mg x = some (.ref C)) (kC : PySem.W.keepIn Z.X.K (.ref C) = true)
    (b1 : PySem.W.subIn Z.X.K (.ref C) (.type "BaseException") = some true) (b2 : PySem.W.typeIn Z.X.K (.ref C) = some (.type "type")) (hc : Z.cls k = .ref C) (hg : Gl Z.X x) (hd : (x == ("__debug__" : Str)) = false := by kernel_rfl) :
    SS Z (.Raise (some (.Call (.Name x p) [.Constant (.str mm) j p2] [] q)) none pos) (mRaise k) := .mk fun ρ σ F Fr H Dd rr h =>
  Cs.of (ps_raise z.calm z.tk (pmk_own FF hx gC kC (raises_own b1 b2) hg hd)) (by
    have q := h F H σ (.refl F) rr
    rw [hc] at q
    exact q)
end

/-! ### x.append(e), x[i] = e of one's own list -/
def mApp (i : Nat) (m : M) : M := fun ρ => match ρ[i]? with
  | some (.own (.list _) _) => Res.bind (m ρ) fun x ρ1 => match esc ρ1 x with
    | some (d, ρ2) => match ρ2[i]? with
      | some (.own (.list ds) b) => if ds.length < big then some (.ok (.val .none) (ρ2.set i (.own (.list (ds ++ [d])) b))) else none
      | _ => none
    | none => none
  | _ => none
def mPutL (i : Nat) (k m : M) : MS := fun ρ => match m ρ with
  | none => none
  | some (.ex c ρ1) => some (.ex c ρ1)
  | some (.ok x ρ1) => match esc ρ1 x with
    | none => none
    | some (d, ρ2) => match ρ2[i]? with
      | some (.own (.list _) _) => match k ρ2 with
        | none => none
        | some (.ex c ρ3) => some (.ex c ρ3)
        | some (.ok y ρ3) => match rd ρ3 y, ρ3[i]? with
          | some (.int n), some (.own (.list ds) b) => match ixN ds.length n with
            | some j => some (.nx (ρ3.set i (.own (.list (ds.set j d)) b)))
            | none => none
          | _, _ => none
      | _ => none
section
variable {K : PySem.W.Frag} {B : Nat → Option Addr} {ρ : Env} {F Fr H : Hp} {σ : L2.St}
/-- one's own object changes -/
theorem Rel.change (r : Rel K B ρ F Fr H σ) {i : Nat} {d d' : D} {b : Bool} {a : Addr} {o : HO} (hi : ρ[i]? = some (Slot.own d b)) (ha : σ[i]? = some (some (.ref a))) (h : OwnAt K F (upd H a o) a d') : Rel K B (ρ.set i (.own d' b)) F Fr (upd H a o) σ := by
  have hil : i < ρ.length := (List.getElem?_eq_some_iff.mp hi).1
  obtain ⟨a0, g1, g2, g3, g4⟩ := r.own i d b hi
  rw [ha] at g1; cases g1
  have bk : ∀ (j : Nat) (e : D) (c : Bool), (List.set ρ i (Slot.own d' b))[j]? = some (Slot.own e c) → (j = i ∧ e = d' ∧ c = b) ∨ (j ≠ i ∧ ρ[j]? = some (Slot.own e c)) := fun j e c h => by
    by_cases hj : j = i
    · subst hj; rw [List.getElem?_set_self hil] at h; cases h; exact .inl ⟨rfl, rfl, rfl⟩
    · rw [List.getElem?_set_ne (Ne.symm hj)] at h; exact .inr ⟨hj, h⟩
  have was : ∀ (j : Nat) (e : D) (c : Bool), (List.set ρ i (Slot.own d' b))[j]? = some (Slot.own e c) → ∃ e', ρ[j]? = some (Slot.own e' c) := fun j e c h => by
    rcases bk j e c h with ⟨rfl, _, rfl⟩ | ⟨_, h⟩
    · exact ⟨d, hi⟩
    · exact ⟨e, h⟩
  refine ⟨by rw [List.length_set]; exact r.len, fun j e h => ?_, fun j e c h' => ?_, fun j k d1 b1 d2 b2 x e1 e2 s1 s2 => ?_, fun x u e => ?_, fun x u e => ?_, fun j x e => ?_⟩
  · by_cases hj : j = i
    · subst hj; rw [List.getElem?_set_self hil] at h; cases h
    · rw [List.getElem?_set_ne (Ne.symm hj)] at h; exact r.val j e h
  · rcases bk j e c h' with ⟨rfl, rfl, rfl⟩ | ⟨nj, h2⟩
    · exact ⟨a, ha, g2, g3, h⟩
    · obtain ⟨x, k1, k2, k3, k4⟩ := r.own j e c h2
      have nx : x ≠ a := fun z => nj (r.apart j i e c d b a h2 hi (by rw [k1, z]) ha)
      exact ⟨x, k1, k2, k3, k4.mv (upd_ne nx)⟩
  · obtain ⟨e1', h1⟩ := was _ _ _ e1
    obtain ⟨e2', h2⟩ := was _ _ _ e2
    exact r.apart j k _ _ _ _ x h1 h2 s1 s2
  · have nx : x ≠ a := fun z => by subst z; rw [g2] at e; cases e
    rw [upd_ne nx]; exact r.fz x u e
  · have nx : x ≠ a := fun z => by subst z; rw [g3] at e; cases e
    rw [upd_ne nx]; exact r.fr x u e
  · obtain ⟨q1, e0, q2⟩ := r.bor j x e
    refine ⟨q1, ?_⟩
    by_cases hj : j = i
    · subst hj
      rw [hi] at q2; cases q2
      exact ⟨d', List.getElem?_set_self hil⟩
    · exact ⟨e0, by rw [List.getElem?_set_ne (Ne.symm hj)]; exact q2⟩
end
section
variable {Z : Zx} {pos p ap : Pos} {e k : Expr} {m mk : M} {x : Str}
theorem s_app (i : Nat) (ha : SE Z e m) (hN : Z.X.N[i]? = some x := by kernel_rfl) (hv : Vis Z.X.env.scope x := by exact vis_k) (hd : (x == ("__debug__" : Str)) = false := by kernel_rfl) (hcd : (x == ("__classdict__" : Str)) = false := by kernel_rfl)
    (h1 : attributeBase (.Name x p) "append" Z.X.env (eval (.Name x p) Z.X.env) = eval (.Name x p) Z.X.env := by kernel_rfl)
    (h2 : (((((backTo pos (starEach [e] Z.X.env)).all fun x => !x.fst) && (backToKw pos (keywordEach [] Z.X.env)).all fun x => x.fst.isSome) && decide (([e] : List Expr).length + ([] : List Keyword).length + (if ([] : List Keyword).isEmpty = true then 0 else 1) < 30)) = true) := by kernel_rfl)
    (h3 : (ap.endLine == pos.line) = true := by kernel_rfl) (h4 : starEach [e] Z.X.env = (false, eval e Z.X.env) :: starEach [] Z.X.env := by kernel_rfl) :
    SE Z (.Call (.Attribute (.Name x p) "append" ap) [e] [] pos) (mApp i m) := by
  refine .mk ?_
  intro ρ σ F Fr H Q rr h
  refine Ce.of (pe_bm PySem.F.plainAttrs_list PySem.F.slot_list_append PySem.F.type_list_append mt_append (pe_var hN hv hd hcd) (pa_cons pe_C pa_nil h4) h1 h2 h3 h4 rfl) ?_
  simp only [mApp] at h
  split at h
  · rename_i ds b hi
    obtain ⟨a, g1, g2, g3, ⟨xs, g4, g5⟩⟩ := rr.own i _ b hi
    refine ⟨.ref a, g1, .inl ⟨rfl, xs, .inl (.inl g4)⟩, ha ρ σ F Fr H _ rr ?_⟩
    cases e1 : m ρ with
    | none => rw [e1] at h; exact h
    | some o => cases o with
      | ex c ρ1 => rw [e1] at h; exact h
      | ok y ρ1 =>
        rw [e1] at h
        simp only [Res.bind] at h
        intro F1 H1 v s1 r1 q1
        split at h
        · rename_i d ρ2 ee
          obtain ⟨F2, s2, r2, rp⟩ := r1.esc q1 ee
          split at h
          · rename_i ds' b' hi'
            split at h
            · rename_i hl
              obtain ⟨a', k1, k2, k3, ⟨ys, k4, k5⟩⟩ := r2.own i _ b' hi'
              rw [g1] at k1; cases k1
              refine ⟨a, ys, v, rfl, rfl, k4, by rw [k5.length]; exact Nat.lt_trans hl big_lt, ?_⟩
              exact h F2 _ .non (s1.trans s2) (r2.change hi' g1 ⟨ys ++ [v], upd_same, k5.append (.cons rp .nil)⟩) .non
            · exact h.elim
          · exact h.elim
        · exact h.elim
  · exact h.elim
theorem x_putL (i : Nat) (hk : SE Z k mk) (ha : SE Z e m) (hN : Z.X.N[i]? = some x := by kernel_rfl) (hv : Vis Z.X.env.scope x := by exact vis_k) (hd : (x == ("__debug__" : Str)) = false := by kernel_rfl) (hcd : (x == ("__classdict__" : Str)) = false := by kernel_rfl)
    {q : Pos} (h0 : ∀ v, assign (.Subscript (.Name x p) k q) Z.X.env v = (do
        let ov ← holding [v] (eval (.Name x p) Z.X.env)
        let iv ← holding [v, ov] (eval k Z.X.env)
        standAt q
        holding [v, ov, iv] (setItem ov iv v)
        release [v, ov, iv] []) := by intro _; kernel_rfl)
    (h1 : swapsWithSole [.Subscript (.Name x p) k q] e pos.line Z.X.env = pure false := by kernel_rfl) (h2 : swappedStores [.Subscript (.Name x p) k q] e Z.X.env = pure none := by kernel_rfl) (h3 : (assignEach [.Subscript (.Name x p) k q] Z.X.env).map (·.2) = [assign (.Subscript (.Name x p) k q) Z.X.env] := by kernel_rfl) :
    SS Z (.Assign [.Subscript (.Name x p) k q] e pos) (mPutL i mk m) := by
  refine .mk ?_
  intro ρ σ F Fr H Dd rr h
  refine Cs.of (ps_asg pe_C (pg_sub (pe_var hN hv hd hcd) pe_C set_list h0) h1 h2 h3) (ha ρ σ F Fr H _ rr ?_)
  simp only [mPutL] at h
  cases e1 : m ρ with
  | none => rw [e1] at h; exact h
  | some o => cases o with
    | ex c ρ1 => rw [e1] at h; exact fun F' H' s' r' => h F' H' σ s' r'
    | ok y ρ1 =>
      rw [e1] at h
      simp only at h
      intro F1 H1 v s1 r1 q1
      split at h
      · exact h.elim
      · rename_i d ρ2 ee
        obtain ⟨F2, s2, r2, rp⟩ := r1.esc q1 ee
        split at h
        · rename_i ds b hi
          obtain ⟨a, g1, g2, g3, g4⟩ := r2.own i _ b hi
          refine ⟨.ref a, g1, ?_⟩
          refine hk.use r2 (fun w ρ3 e3 F3 H3 u s3 r3 q3 => ?_) (fun c ρ3 e3 F3 H3 s3 r3 => ?_) (fun e3 => ?_)
          · rw [e3] at h
            simp only at h
            split at h
            · rename_i n ds' b' en hi'
              split at h
              · rename_i j hj
                obtain ⟨a', k1, k2, k3, ⟨ys, k4, k5⟩⟩ := r3.own i _ b' hi'
                rw [g1] at k1; cases k1
                have hu := (r3.rd (x := w.fz) q3 (by rw [rd_fz]; exact en)).int
                subst hu
                refine ⟨a, ys, n, j, rfl, rfl, k4, by rw [k5.length]; exact hj, ?_⟩
                exact h F3 _ σ ((s1.trans s2).trans s3) (r3.change hi' g1 ⟨ys.set j v, upd_same, k5.set (rp.le (.of s3)) j⟩)
              · exact h.elim
            · exact h.elim
          · rw [e3] at h; exact h F3 H3 σ ((s1.trans s2).trans s3) r3
          · rw [e3] at h; exact h
        · exact h.elim
end
end Pi
set_option maxRecDepth 100000
set_option maxHeartbeats 1000000
/-! a def, by its body; the law's end -/
namespace Pi
open PySem PySem.Spec PyProof.Rows L2

/-- the result, as the caller sees it -/
def giveR (ρ : Env) : RV → Option RV
  | .val d => some (.val d)
  | .own d => some (.own d)
  | .slot i => match ρ[i]? with
    | some (.val d) => some (.val d)
    | some (.own d false) => some (.own d)
    | _ => none
def keepS : Slot → Slot → Slot
  | .own _ _, o => o
  | s, _ => s
/-- the lent arguments, as they are left -/
def left : Env → Env → Env
  | [], _ => []
  | s :: r, ρ => keepS s (ρ.headD .un) :: left r ρ.tail
theorem left_len : ∀ (ins ρ : Env), (left ins ρ).length = ins.length
  | [], _ => rfl
  | _ :: r, ρ => congrArg (· + 1) (left_len r ρ.tail)
theorem left_get : ∀ (ins ρ : Env) (i : Nat), (left ins ρ)[i]? = (ins[i]?).map fun s => keepS s ((ρ[i]?).getD .un)
  | [], _, i => by simp [left]
  | s :: r, [], 0 => by simp [left]
  | s :: r, x :: ρ, 0 => by simp [left]
  | s :: r, [], i + 1 => by
    have := left_get r [] i
    simpa [left] using this
  | s :: r, x :: ρ, i + 1 => by
    have := left_get r ρ i
    simpa [left] using this
/-- a def's reading -/
def runF (n : Nat) (m : MS) : Env → Option Out := fun ins => match m (ins ++ List.replicate (n - ins.length) .un) with
  | some (.nx ρ) => some (.rt (.val .none) (left ins ρ))
  | some (.rt r ρ) => (giveR ρ r).map fun x => .rt x (left ins ρ)
  | some (.ex c ρ) => some (.ex c (left ins ρ))
  | _ => none

section
variable {K : PySem.W.Frag} {B : Nat → Option Addr} {ins ρ : Env} {F Fr H F' H' : Hp} {σ : L2.St} {vs : List V}
theorem start_get {N : List Str} {i : Nat} (h : i < vs.length) : (L2.start N vs)[i]? = (vs.map some)[i]? := by
  unfold L2.start
  exact List.getElem?_append_left (by simpa using h)
theorem rel_start {N : List Str} (r : Rel K B ins F Fr H (vs.map some)) (h : vs.length ≤ N.length) : Rel K B (ins ++ List.replicate (N.length - ins.length) .un) F Fr H (L2.start N vs) := by
  have hl : vs.length = ins.length := by have := r.len; rwa [List.length_map] at this
  have old : ∀ (i : Nat) (s : Slot), (ins ++ List.replicate (N.length - ins.length) .un)[i]? = some s → s ≠ .un → i < ins.length ∧ ins[i]? = some s := fun i s e ne => by
    by_cases hi : i < ins.length
    · rw [List.getElem?_append_left hi] at e; exact ⟨hi, e⟩
    · rw [List.getElem?_append_right (by omega), List.getElem?_replicate] at e
      split at e
      · cases e; exact absurd rfl ne
      · cases e
  have inn : ∀ (i : Nat) (s : Slot), ins[i]? = some s → i < vs.length ∧ (ins ++ List.replicate (N.length - ins.length) .un)[i]? = some s := fun i s e => by
    have hi : i < ins.length := (List.getElem?_eq_some_iff.mp e).1
    exact ⟨by omega, by rw [List.getElem?_append_left hi]; exact e⟩
  refine ⟨?_, fun i d e => ?_, fun i d b e => ?_, fun i j d b d' b' a e1 e2 s1 s2 => ?_, r.fz, r.fr, fun i a e => ?_⟩
  · unfold L2.start
    simp only [List.length_append, List.length_map, List.length_replicate]
    omega
  · obtain ⟨h1, h2⟩ := old i _ e (fun z => by cases z)
    rw [start_get (by omega)]
    exact r.val i d h2
  · obtain ⟨h1, h2⟩ := old i _ e (fun z => by cases z)
    rw [start_get (by omega)]
    exact r.own i d b h2
  · obtain ⟨h1, h2⟩ := old i _ e1 (fun z => by cases z)
    obtain ⟨g1, g2⟩ := old j _ e2 (fun z => by cases z)
    rw [start_get (by omega)] at s1 s2
    exact r.apart i j d b d' b' a h2 g2 s1 s2
  · obtain ⟨h1, d, h2⟩ := r.bor i a e
    obtain ⟨h3, h4⟩ := inn i _ h2
    exact ⟨by rw [start_get h3]; exact h1, d, h4⟩
/-- behind the body -/
theorem rel_left (r : Rel K B ins F Fr H (vs.map some)) (hb : ∀ (i : Nat) (d : D) (b : Bool), ins[i]? = some (Slot.own d b) → b = true ∧ ∃ a, B i = some a) (s : Same F F') (r' : Rel K B ρ F' Fr H' σ) :
    Rel K B (left ins ρ) F' Fr H' (vs.map some) ∧ ∀ (i : Nat) (d : D) (b : Bool), (left ins ρ)[i]? = some (Slot.own d b) → ∃ a, b = true ∧ ρ[i]? = some (Slot.own d true) ∧ σ[i]? = some (some (.ref a)) ∧ (vs.map some)[i]? = some (some (.ref a)) := by
  have hl : vs.length = ins.length := by have := r.len; rwa [List.length_map] at this
  have ownS : ∀ (i : Nat) (d : D) (b : Bool), (left ins ρ)[i]? = some (Slot.own d b) → ∃ a, b = true ∧ ρ[i]? = some (Slot.own d true) ∧ σ[i]? = some (some (.ref a)) ∧ (vs.map some)[i]? = some (some (.ref a)) := fun i d b e => by
    rw [left_get] at e
    cases hx : ins[i]? with
    | none => rw [hx] at e; cases e
    | some x =>
      rw [hx] at e
      cases x with
      | un => cases e
      | val d0 => cases e
      | own d0 b0 =>
        obtain ⟨_, a, ha⟩ := hb i d0 b0 hx
        obtain ⟨g1, d1, g2⟩ := r'.bor i a ha
        rw [g2] at e; cases e
        exact ⟨a, rfl, g2, g1, (r.bor i a ha).1⟩
  have long : ∀ (i : Nat) (d : D) (b : Bool), ins[i]? = some (Slot.own d b) → ∃ d', (left ins ρ)[i]? = some (Slot.own d' true) := fun i d b e => by
    obtain ⟨_, a, ha⟩ := hb i d b e
    obtain ⟨g1, d1, g2⟩ := r'.bor i a ha
    refine ⟨d1, ?_⟩
    rw [left_get, e, g2]
    rfl
  refine ⟨⟨?_, fun i d e => ?_, fun i d b e => ?_, fun i j d b d' b' a e1 e2 s1 s2 => ?_, r'.fz, r'.fr, fun i a e => ?_⟩, ownS⟩
  · -- lengths
    rw [List.length_map, left_len, hl]
  · rw [left_get] at e
    cases hx : ins[i]? with
    | none => rw [hx] at e; cases e
    | some x =>
      rw [hx] at e
      cases x with
      | un => cases e
      | val d0 => cases e; obtain ⟨v, h1, h2⟩ := r.val i d hx; exact ⟨v, h1, h2.le (.of s)⟩
      | own d0 b0 =>
        obtain ⟨_, a, ha⟩ := hb i d0 b0 hx
        obtain ⟨g1, d1, g2⟩ := r'.bor i a ha
        rw [g2] at e; cases e
  · obtain ⟨a, rfl, h1, h2, h3⟩ := ownS i d b e
    obtain ⟨a', g1, g2, g3, g4⟩ := r'.own i d true h1
    rw [h2] at g1; cases g1
    exact ⟨a, h3, g2, g3, g4⟩
  · obtain ⟨a1, _, h1, h2, h3⟩ := ownS i d b e1
    obtain ⟨a2, _, k1, k2, k3⟩ := ownS j d' b' e2
    rw [h3] at s1; cases s1
    rw [k3] at s2; cases s2
    exact r'.apart i j d true d' true a h1 k1 h2 k2
  · obtain ⟨h1, d, h2⟩ := r.bor i a e
    exact ⟨h1, long i d true h2⟩

theorem give_rel (r' : Rel K B ρ F' Fr H' σ) {ρ2 : Env} {σ2 : L2.St} (hown : ∀ (i : Nat) (d : D) (b : Bool), ρ2[i]? = some (Slot.own d b) → ∃ a, b = true ∧ ρ[i]? = some (Slot.own d true) ∧ σ[i]? = some (some (.ref a)) ∧ σ2[i]? = some (some (.ref a)))
    {v : V} {x y : RV} (h : RVRel K ρ F' Fr H' σ v x) (e : giveR ρ x = some y) : (∀ i, y ≠ .slot i) ∧ RVRel K ρ2 F' Fr H' σ2 v y := by
  cases x with
  | val d => cases e; exact ⟨(fun _ z => nomatch z), h⟩
  | own d =>
    cases e
    obtain ⟨a, h1, h2, h3, h4, h5⟩ := h
    refine ⟨(fun _ z => nomatch z), a, h1, h2, h3, h4, fun i d' b z => ?_⟩
    obtain ⟨a', _, k1, k2, k3⟩ := hown i d' b z
    intro q
    rw [k3] at q; cases q
    exact h5 i d' true k1 k2
  | slot j =>
    have h : σ[j]? = some (some v) := h
    simp only [giveR] at e
    split at e
    · rename_i d hd
      cases e
      obtain ⟨v', g1, g2⟩ := r'.val j d hd
      rw [h] at g1; cases g1
      exact ⟨(fun _ z => nomatch z), g2⟩
    · rename_i d hd
      cases e
      obtain ⟨a, g1, g2, g3, g4⟩ := r'.own j d false hd
      rw [h] at g1; cases g1
      refine ⟨(fun _ z => nomatch z), a, rfl, g2, g3, g4, fun i d' b z => ?_⟩
      obtain ⟨a', _, k1, k2, k3⟩ := hown i d' b z
      intro q
      rw [k3] at q; cases q
      have := r'.apart i j d' true d false a k1 hd k2 h
      subst this
      rw [hd] at k1; cases k1
    · cases e
end

/-- where a def's body runs -/
abbrev Zf (P : Program) (w : World) (K : PySem.W.Frag) (mg : Str → Option Value) (base : Heap) (cls : Nat → Value) (k : Nat) (N : List Str) (qual : Str) (scope : Scope) (f : Addr) (cd : Value) (A : Around) (outer : List PySem.Env) (s : Shared) (H : Hp) (E : XK) (B : Nat → Option Addr) : Zx :=
  ⟨cxOf (L2.CX P w) P w K mg base N qual scope f cd A outer s H E, fun c d _ H' => E c d H', B, cls, k⟩
section
variable {P : Program} {w : World} {K : PySem.W.Frag} {mg : Str → Option Value} {base : Heap} {cls : Nat → Value} {k : Nat} {f : Addr} {name qual : Str} {params : Arguments} {body : List Stmt} {scope : Scope} {dV kV doc pm cdv ct oc : Value} {an od : Option Addr}
  {osl : Array (Option Value)} {N ps : List Str} {m : MS}
/-- a def, by its body -/
theorem fnG_of (lk : K.lookup f = some ⟨oc, od, .func (PySem.W.fnOf name qual params body scope dV kV doc pm an cdv ct), osl⟩) (hcd : PySem.W.codeIn K cdv qual = true) (S : FnScope N ps scope)
    (hbody : ∀ (A : Around) (outer : List PySem.Env) (s : Shared) (H : Hp) (E : XK) (B : Nat → Option Addr), (Zf P w K mg base cls k N qual scope f cdv A outer s H E B).Ok → SSs (Zf P w K mg base cls k N qual scope f cdv A outer s H E B) body m) :
    FnG P w K mg base (k + 1) f (PySem.W.fnOf name qual params body scope dV kV doc pm an cdv ct) ps (SpF K cls ps.length (runF N.length m)) := by
  refine ⟨fun vs H Q E h => h.1, fun A outer s H args us vs Q E hr gd e0 hb r hsp => ?_⟩
  obtain ⟨hl, ins, F, Fr, B, rel, hB, hq⟩ := hsp
  have KX : K.In s.heap := e0.mod.kin.keeps fun b o e => (e0.bs b o e).1
  have lim : s.heap.NoLimit := e0.mod.nolimit.keeps fun b o e => (e0.bs b o e).1
  have npl : ps.length ≤ N.length := by have := congrArg List.length S.pre; rw [List.length_take] at this; omega
  refine codeAny_call_function hr.depth (KX _ _ lk) rfl S.co S.gen rfl (PySem.W.codeRec_of KX hcd) (hb _ _ _ _ ?_)
  refine wpAny_newFunctionEnv_cells S.kind (fun ⟨n, v⟩ hy => ?_) fun env he s1 x => ?_
  · rcases S.par n (List.of_mem_zip hy).1 with q | q
    · exact .inl q
    · exact .inr ⟨q, PySem.W.cellsFrom_some _ _ _ (.inl q)⟩
  subst he
  refine ⟨lim.keeps x.toInCall.keep, codeAny_func ?_⟩
  have hz : (Zf P w K mg base cls k N qual scope f cdv A outer s H E B).Ok := ⟨rfl, S.nd, hr.deeper _, by
    show (A.deeper _).guards = some []
    exact gd, takes_of rfl rfl rfl rfl, passes_of rfl⟩
  have I := inv_start (CX := L2.CX P w) (f := f) (qual := qual) (cd := cdv) (E := E) S hr.hd e0 hl r x
  have hil : ins.length = vs.length := by have := rel.len; rw [List.length_map] at this; exact this.symm
  refine wpAny_mono (hbody A outer s H E B hz _ (L2.start N vs) F Fr H { nx := fun _ H' => Q .non H', rt := Q } (rel_start rel (by omega)) ?_ [] s1 I) (fun fl s' hs => ?_) fun e s' hs => hs
  · simp only [runF] at hq
    cases e1 : m (ins ++ List.replicate (N.length - ins.length) Slot.un) with
    | none => rw [e1] at hq; exact hq
    | some o =>
      rw [e1] at hq
      cases o with
      | nx ρ =>
        intro F' H' σ' s' r'
        obtain ⟨r2, _⟩ := rel_left rel hB s' r'
        exact hq.2 F' H' .non s' r2 .non
      | rt y ρ =>
        cases e2 : giveR ρ y with
        | none => simp only [e2] at hq; exact hq.elim
        | some y' =>
          simp only [e2] at hq
          intro F' H' σ' v s' r' rv
          obtain ⟨r2, hown⟩ := rel_left rel hB s' r'
          exact hq.2 F' H' v s' r2 (give_rel r' hown rv e2).2
      | ex c ρ =>
        intro F' H' σ' s' r'
        obtain ⟨r2, _⟩ := rel_left rel hB s' r'
        exact hq F' H' s' r2
      | bk ρ => exact hq.elim
      | ct ρ => exact hq.elim
  · have fin : ∀ {σ' : L2.St} {H' : Hp} {v : V} {u : Value}, Inv (cxOf (L2.CX P w) P w K mg base N qual scope f cdv A outer s H E) [] σ' H' s' → RelV v u → Q v H' → CE outer P w H s Q u s' :=
      fun {σ' H' v u} J rv q => ⟨v, H', J.os, J.bare, J.base, J.hok, rv, q⟩
    cases fl with
    | ret u =>
      obtain ⟨v, σ', H', J, rv, q⟩ := hs
      exact fin J rv q
    | next =>
      obtain ⟨σ', H', J, q⟩ := hs
      exact fin (v := V.non) (u := Value.none) J rfl q
    | brk =>
      obtain ⟨_, _, _, q⟩ := hs
      exact False.elim q
    | cont =>
      obtain ⟨_, _, _, q⟩ := hs
      exact False.elim q
end
end Pi
set_option maxRecDepth 100000
set_option maxHeartbeats 1000000
/-! try: .. except C as e: a few tests of e, a constant returned -/
namespace Pi
open PySem PySem.Spec PyProof.Rows L2

/-- a class's name -/
def ClsN (X : Cx) (x : Str) (c : V) (u : Value) : Prop := Gl X x ∧ (x == ("__debug__" : Str)) = false ∧ ClsV c u ∧ (X.mg x = some u ∨ (X.mg x = none ∧ bootBuiltins x = some u ∧ x ≠ "__name__"))
theorem clsV_rel {c : V} {u : Value} (h : ClsV c u) : RelV c u := by cases h <;> rfl
theorem pe_clsN {X : Cx} {x : Str} {c : V} {u : Value} {p : Pos} (h : ClsN X x c u) : PE X (.Name x p) (tC c) := by
  obtain ⟨hg, hd, hc, hm | ⟨hm, hv, hn⟩⟩ := h
  · exact pe_glob hg hm (clsV_rel hc) hd
  · exact pe_bltn hg hm hv (clsV_rel hc) hn hd

/-- isinstance(e, (C1, ..)), e the exception that the suite holds -/
def rIsET (K : PySem.W.Frag) (D a : Addr) : List V → Hp → VK → Prop := fun xs H Q => ∃ (tp : Addr) (cs : List V) (us : List Value) (b : Bool), xs = [.ref a, .ref tp] ∧ H tp = some (.tup cs) ∧ Paired ClsV cs us ∧ PySem.W.kitAny K (.ref D) us = some b ∧ Q (.bl b) H
theorem call_isET {X : Cx} {a D : Addr} {oe : Obj} {pn : List (Addr × Obj)} (C : ExcC X.K D) (hz : Zc (.ref D) none oe) (hf : ∃ vs, oe.data = .fields vs) : CallR (X.suite a ((a, oe) :: pn)) (.builtin "isinstance") (rIsET X.K D a) := by
  intro pins s σ H xs us Q I r h
  obtain ⟨tp, cs, ws, b, rfl, hT, hk, e, q⟩ := h
  obtain ⟨u1, u2, rfl, r1, r2⟩ := vals2 r
  cases (show u1 = Value.ref a from r1)
  cases (show u2 = Value.ref tp from r2)
  obtain ⟨_, its, rv, o, h1, h2, n, h3⟩ := (show ObjOk X.prog X.w H s.heap tp (.tup cs) from I.hok tp _ hT)
  have e3 := ClsV.all hk rv
  subst e3
  obtain ⟨hget, _⟩ := I.pin (a, oe) (List.mem_append.mpr (.inl List.mem_cons_self))
  obtain ⟨vs, hv⟩ := hf
  have J : PySem.W.InstAt s.heap a oe D none := by
    cases oe with
    | mk oc od oda osl =>
      obtain ⟨g1, g2⟩ := hz
      simp only at g1 g2 hv
      subst g1 g2 hv
      exact ⟨hget, rfl, rfl, trivial⟩
  cases o with
  | mk oc od dt sl =>
    simp only at h2 h3
    subst h2 h3
    exact PySem.W.kia_tup (PySem.W.handS_kitx_exc C.hg C.hk C.hs C.hd C.ha C.hn C.ht C.hm) I.kIn J h1 e (fun z => nomatch z) fun tk => ⟨.bl b, H, I.kept (t' := tk) fun _ _ z => z, rfl, q⟩

/-- nothing that is told of is changed -/
def Later (H H' : Hp) : Prop := ∀ (K : PySem.W.Frag) (B : Nat → Option Addr) (ρ : Env) (F Fr : Hp) (σ : L2.St), Rel K B ρ F Fr H σ → Rel K B ρ F Fr H' σ
theorem Later.refl (H : Hp) : Later H H := fun _ _ _ _ _ _ r => r
theorem Later.trans {H H1 H2 : Hp} (a : Later H H1) (b : Later H1 H2) : Later H H2 := fun K B ρ F Fr σ r => b K B ρ F Fr σ (a K B ρ F Fr σ r)
theorem Later.new {H : Hp} {p : Addr} {o : HO} (h : H p = none) : Later H (upd H p o) := fun _ _ _ _ _ _ r => r.newOwn h
/-! ### pieces of a suite: slot i holds the exception at a -/
def UT (X : Cx) (i : Nat) (a : Addr) (e : Expr) (b : Bool) : Prop := ∀ (σ : L2.St) (H : Hp) (Q : Bool → Hp → Prop), σ[i]? = some (some (.ref a)) → (∀ H', Later H H' → Q b H') → Ct X e σ H Q
def UW (X : Cx) (i : Nat) (a : Addr) (e : Expr) (b : Bool) : Prop := ∀ (σ : L2.St) (H : Hp) (Q : Bool → Hp → Prop), σ[i]? = some (some (.ref a)) → (∀ H', Later H H' → Q b H') → Cw X e σ H Q
/-- .. whose value is a plain one -/
def UV (X : Cx) (i : Nat) (a : Addr) (e : Expr) (v : V) : Prop := ∀ (σ : L2.St) (H : Hp) (Q : VK), σ[i]? = some (some (.ref a)) → (∀ H', Later H H' → Q v H') → Ce X e σ H Q
section
variable {X : Cx} {i : Nat} {a D : Addr} {oe : Obj} {pn : List (Addr × Obj)} {e c d : Expr} {pos p p2 p3 : Pos} {n x : Str} {k : V} {u : Value} {b b' : Bool} {v w : V} {j : Nat}
theorem u_int {z : Int} : UV X i a (.Constant (.int z) j pos) (.int z) := fun σ H Q h q => Ce.of pe_int (q H (.refl H))
theorem u_bl {z : Bool} : UV X i a (.Constant (.bool z) j pos) (.bl z) := fun σ H Q h q => Ce.of pe_bl (q H (.refl H))
theorem u_non : UV X i a (.Constant .none j pos) .non := fun σ H Q h q => Ce.of pe_non (q H (.refl H))
theorem u_str {z : Str} : UV X i a (.Constant (.str z) j pos) (.str z) := fun σ H Q h q => Ce.of pe_str (q H (.refl H))
/-- isinstance(e, C) -/
theorem u_ise (C : ExcC X.K D) (hz : Zc (.ref D) none oe) (hf : ∃ vs, oe.data = .fields vs) (hc : ClsN X x k u) (hk : PySem.W.kitOne X.K (.ref D) u = some b) (hN : X.N[i]? = some n) (hv : Vis X.env.scope n) (hg : Gl X "isinstance") (hm : X.mg "isinstance" = none)
    (hd : (n == ("__debug__" : Str)) = false := by kernel_rfl) (hcd : (n == ("__classdict__" : Str)) = false := by kernel_rfl)
    (he : starEach [.Name n p, .Name x p2] X.env = (false, eval (.Name n p) X.env) :: starEach [.Name x p2] X.env := by kernel_rfl) :
    UV (X.suite a ((a, oe) :: pn)) i a (.Call (.Name "isinstance" p3) [.Name n p, .Name x p2] [] pos) (.bl b) := fun σ H Q h q =>
  Ce.of (X := X.suite a ((a, oe) :: pn)) (pe_callB (call_isE C hz hf) hg hm (by decide +kernel) (pa_cons (pe_var hN hv hd hcd) (pa_cons (pe_clsN (X := X.suite a ((a, oe) :: pn)) hc) pa_nil) he) (he := he) (hpl := rfl))
    ⟨_, h, k, u, b, rfl, fun w r => hc.2.2.1.eq r, hk, q H (.refl H)⟩
/-- .. as a test -/
theorem u_tv (h : UV X i a e (.bl b)) (he : ∀ whole, PySem.isTrue e X.env whole = (do let v ← whole; standAt e.pos; holding [v] (truthy v)) := by intro _; kernel_rfl) : UT X i a e b := fun σ H Q hs q =>
  Ct.of (pt_truth pe_C he) (h σ H _ hs fun H' l => ⟨b, rfl, q H' l⟩)
theorem u_not (h : UT X i a e b) : UT X i a (.UnaryOp .Not e pos) (!b) := fun σ H Q hs q => Ct.of (pt_not pt_C) (h σ H _ hs q)
theorem uw_one_and (h : UT X i a e b) : UW X i a (.BoolOp .And [e] pos) b := fun σ H Q hs q => Cw.of (pw_and1 pt_C) (h σ H Q hs q)
theorem uw_one_or (h : UT X i a e b) : UW X i a (.BoolOp .Or [e] pos) b := fun σ H Q hs q => Cw.of (pw_or1 pt_C) (h σ H Q hs q)
theorem uw_and {rest : List Expr} (h : UT X i a e b) (h' : UW X i a (.BoolOp .And (c :: rest) pos) b') : UW X i a (.BoolOp .And (e :: c :: rest) pos) (b && b') := fun σ H Q hs q =>
  Cw.of (pw_and pt_C pw_C) (h σ H _ hs fun H' l => by
    cases b with
    | true => exact iteT (h' σ H' Q hs fun H2 l2 => q H2 (l.trans l2))
    | false => exact iteF (q H' l))
theorem uw_or {rest : List Expr} (h : UT X i a e b) (h' : UW X i a (.BoolOp .Or (c :: rest) pos) b') : UW X i a (.BoolOp .Or (e :: c :: rest) pos) (b || b') := fun σ H Q hs q =>
  Cw.of (pw_or pt_C pw_C) (h σ H _ hs fun H' l => by
    cases b with
    | true => exact iteT (q H' l)
    | false => exact iteF (h' σ H' Q hs fun H2 l2 => q H2 (l.trans l2)))
theorem u_w (h : UW X i a e b) : UT X i a e b := fun σ H Q hs q => Ct.of (PW.pt pw_C) (h σ H Q hs q)
theorem u_ife (h : UT X i a c b) (hv : UV X i a e v) (hw : UV X i a d w) : UV X i a (.IfExp c e d pos) (if b = true then v else w) := fun σ H Q hs q =>
  Ce.of (pe_ifExp pt_C pe_C pe_C) (h σ H _ hs fun H' l => by
    cases b with
    | true => exact iteT (hv σ H' Q hs fun H2 l2 => q H2 (l.trans l2))
    | false => exact iteF (hw σ H' Q hs fun H2 l2 => q H2 (l.trans l2)))
/-- not isinstance(..) as a value -/
theorem u_notV (h : UV X i a e (.bl b)) : UV X i a (.UnaryOp .Not e pos) (.bl (!b)) := fun σ H Q hs q => Ce.of (pe_not pe_C) (h σ H _ hs fun H' l => ⟨b, rfl, q H' l⟩)
/-- a row of classes -/
def UCs (X : Cx) (es : List Expr) (cs : List V) (us : List Value) : Prop := (∀ (σ : L2.St) (H : Hp) (Q : List V → Hp → Prop), Q cs H → Ca X es σ H Q) ∧ Paired ClsV cs us
theorem uc_nil : UCs X [] [] [] := ⟨fun σ H Q q => Ca.of pa_nil q, .nil⟩
theorem uc_cons {es : List Expr} {cs : List V} {us : List Value} (h : ClsN X x k u) (r : UCs X es cs us) (hs : starEach (.Name x p :: es) X.env = (false, eval (.Name x p) X.env) :: starEach es X.env := by kernel_rfl) : UCs X (.Name x p :: es) (k :: cs) (u :: us) :=
  ⟨fun σ H Q q => Ca.of (pa_cons (pe_clsN h) pa_C hs) (r.1 σ H _ q), .cons h.2.2.1 r.2⟩
theorem kit_more {K : PySem.W.Frag} {t c : Value} {cs : List Value} {b r : Bool} (h : PySem.W.kitOne K t c = some b) (hr : PySem.W.kitAny K t cs = some r) : PySem.W.kitAny K t (c :: cs) = some (b || r) :=
  kitAny_cons h (fun e => by rw [hr, e]; rfl) (fun e => by rw [e]; rfl)
theorem u_iset {es : List Expr} {cs : List V} {us : List Value} {x1 : Nat} (C : ExcC X.K D) (hz : Zc (.ref D) none oe) (hf : ∃ vs, oe.data = .fields vs) (hc : UCs (X.suite a ((a, oe) :: pn)) es cs us) (hk : PySem.W.kitAny X.K (.ref D) us = some b) (hl : cs.length ≤ sizeLine) (hN : X.N[i]? = some n) (hv : Vis X.env.scope n)
    (hg : Gl X "isinstance") (hm : X.mg "isinstance" = none) (hd : (n == ("__debug__" : Str)) = false := by kernel_rfl) (hcd : (n == ("__classdict__" : Str)) = false := by kernel_rfl)
    (he : starEach [.Name n p, .Tuple es x1 p2] X.env = (false, eval (.Name n p) X.env) :: starEach [.Tuple es x1 p2] X.env := by kernel_rfl)
    (he2 : starEach [.Tuple es x1 p2] X.env = [(false, eval (.Tuple es x1 p2) X.env)] := by kernel_rfl) :
    UV (X.suite a ((a, oe) :: pn)) i a (.Call (.Name "isinstance" p3) [.Name n p, .Tuple es x1 p2] [] pos) (.bl b) := fun σ H Q h q =>
  Ce.of (X := X.suite a ((a, oe) :: pn)) (pe_callB (call_isET C hz hf) hg hm (by decide +kernel) (pa_cons (pe_var hN hv hd hcd) (pa_cons (pe_tup pa_C) pa_nil he2) he) (he := he) (hpl := by rw [he2]; rfl))
    ⟨_, h, hc.1 σ H _ ⟨hl, fun pp hp => ⟨pp, cs, us, b, rfl, upd_same, hc.2, hk, q _ (.new hp)⟩⟩⟩
end

/-! ### the suite -/
structure US (K : PySem.W.Frag) (B : Nat → Option Addr) (X : Cx) (i : Nat) (a : Addr) (st : List Stmt) (r : Option RV) : Prop where
  run : ∀ (ρ : Env) (σ : L2.St) (F Fr H : Hp) (Dd : Ends), Rel K B ρ F Fr H σ → σ[i]? = some (some (.ref a)) →
  (match r with
    | none => ∀ H', Rel K B ρ F Fr H' σ → Dd.nx σ H'
    | some x => ∀ H' v, Rel K B ρ F Fr H' σ → RVRel K ρ F Fr H' σ v x → Dd.rt v H') → Css X st Dd σ H
structure US1 (K : PySem.W.Frag) (B : Nat → Option Addr) (X : Cx) (i : Nat) (a : Addr) (st : Stmt) (r : Option RV) : Prop where
  run : ∀ (ρ : Env) (σ : L2.St) (F Fr H : Hp) (Dd : Ends), Rel K B ρ F Fr H σ → σ[i]? = some (some (.ref a)) →
  (match r with
    | none => ∀ H', Rel K B ρ F Fr H' σ → Dd.nx σ H'
    | some x => ∀ H' v, Rel K B ρ F Fr H' σ → RVRel K ρ F Fr H' σ v x → Dd.rt v H') → Cs X st Dd σ H
section
variable {K : PySem.W.Frag} {B : Nat → Option Addr} {X : Cx} {i : Nat} {a : Addr} {st : Stmt} {rest sa sb : List Stmt} {r r' : Option RV} {e c : Expr} {pos p : Pos} {b : Bool} {v : V} {d : D}
theorem us_nil : US K B X i a [] none := .mk fun ρ σ F Fr H Dd rr hs q => Css.of pss_nil (q H rr)
theorem us_cons (h : US1 K B X i a st r) (h' : US K B X i a rest r') : US K B X i a (st :: rest) (match r with | none => r' | some x => some x) := by
  refine .mk ?_
  intro ρ σ F Fr H Dd rr hs q
  refine Css.of (pss_cons ps_C pss_C) (h.run ρ σ F Fr H _ rr hs ?_)
  cases r with
  | none => exact fun H' rr' => h'.run ρ σ F Fr H' Dd rr' hs q
  | some x => exact q
theorem us_if (hc : UT X i a c b) (ha : US K B X i a sa r) (hb : US K B X i a sb r') : US1 K B X i a (.If c sa sb pos) (if b = true then r else r') := by
  refine .mk ?_
  intro ρ σ F Fr H Dd rr hs q
  refine Cs.of (ps_if pt_C pss_C pss_C) (hc σ H _ hs fun H' l => ?_)
  cases b with
  | true => exact iteT (ha.run ρ σ F Fr H' Dd (l _ _ _ _ _ _ rr) hs q)
  | false => exact iteF (hb.run ρ σ F Fr H' Dd (l _ _ _ _ _ _ rr) hs q)
theorem us_ret (he : UV X i a e v) (hd : ∀ F, Rp K F v d) : US1 K B X i a (.Return (some e) pos) (some (.val d)) := .mk fun ρ σ F Fr H Dd rr hs q =>
  Cs.of (ps_ret pe_C) (he σ H _ hs fun H' l => q H' v (l _ _ _ _ _ _ rr) (hd F))
theorem us_retL (he : UV X i a e v) (hd : ∀ F, Rp K F v d) (h1 : starEach [e] X.env = (false, eval e X.env) :: starEach [] X.env := by kernel_rfl) : US1 K B X i a (.Return (some (.List [e] p)) pos) (some (.own (.list [d]))) := .mk fun ρ σ F Fr H Dd rr hs q =>
  Cs.of (ps_ret (pe_lst (pa_cons pe_C pa_nil h1))) (he σ H _ hs fun H' l => ⟨(by show 1 ≤ sizeLine; decide), fun pp hp => by
    have r1 := l _ _ _ _ _ _ rr
    obtain ⟨f1, f2⟩ := r1.fnone hp
    exact q _ _ (r1.newOwn hp) ⟨pp, rfl, f1, f2, ⟨[v], upd_same, .cons (hd F) .nil⟩, r1.slotne hp⟩⟩)
end
end Pi
set_option maxRecDepth 100000
set_option maxHeartbeats 1000000
/-! try; x is True; max(a, b) -/
namespace Pi
open PySem PySem.Spec PyProof.Rows L2

def fIsB (neg : Bool) : D → D → Option RV
  | .bool a, .bool b => some (.val (.bool (if neg = true then !decide (a = b) else decide (a = b))))
  | _, _ => none
def fMx2 : D → D → Option RV := fI (fun _ _ => true) fun i j => .int (if j > i then j else i)
def fMn2 : D → D → Option RV := fI (fun _ _ => true) fun i j => .int (if j < i then j else i)
section
variable {Z : Zx} {a b : Expr} {ma mb : M} {pos p : Pos}
abbrev rIsBl (neg : Bool) : R2 := fun x y H Q => ∃ i j : Bool, x = .bl i ∧ y = .bl j ∧ Q (.bl (if neg = true then !decide (i = j) else decide (i = j))) H
theorem os_isB (neg : Bool) : OpS Z (rIsBl neg) (fIsB neg) := by
  intro ρ σ F Fr H x y p q z Q r hx hy e k
  cases p with
  | bool i =>
    cases q with
    | bool j =>
      have e1 := hx.bool
      have e2 := hy.bool
      simp only [fIsB] at e
      cases e
      exact ⟨i, j, e1, e2, k F H _ (.refl F) r (.bl _)⟩
    | _ => cases e
  | _ => cases q <;> cases e
theorem s_isB (ha : SE Z a ma) (hb : SE Z b mb) (hm : behindInMarks .Is b = false := by first | exact nomark _ | rfl) : SE Z (.Compare a [.Is] [b] pos) (mOp (fIsB false) ma mb) := s_cmp op_is_bl (os_isB false) ha hb hm
theorem s_notB (ha : SE Z a ma) (hb : SE Z b mb) (hm : behindInMarks .IsNot b = false := by first | exact nomark _ | rfl) : SE Z (.Compare a [.IsNot] [b] pos) (mOp (fIsB true) ma mb) := s_cmp op_isnot_bl (os_isB true) ha hb hm
theorem bIsB (n : Bool) : ∀ p q z, fIsB n p q = some z → ∃ k, z = RV.val (.bool k) := fun p q z e => by
  cases p <;> cases q <;> simp only [fIsB] at e <;> cases e <;> exact ⟨_, rfl⟩
theorem t_isB (ha : SE Z a ma) (hb : SE Z b mb) (hm : behindInMarks .Is b = false := by first | exact nomark _ | rfl) : ST Z (.Compare a [.Is] [b] pos) (mTru (mOp (fIsB false) ma mb)) := t_op op_is_bl (os_isB false) (bIsB _) ha hb hm
theorem t_notB (ha : SE Z a ma) (hb : SE Z b mb) (hm : behindInMarks .IsNot b = false := by first | exact nomark _ | rfl) : ST Z (.Compare a [.IsNot] [b] pos) (mTru (mOp (fIsB true) ma mb)) := t_op op_isnot_bl (os_isB true) (bIsB _) ha hb hm
theorem os_mx2 : OpS Z (fun x y H Q => ∃ i j, [x, y] = [.int i, .int j] ∧ Q (.int (if j > i then j else i)) H) fMx2 := by
  intro ρ σ F Fr H x y p q z Q r hx hy e k
  unfold fMx2 fI at e
  split at e
  · simp only [if_true] at e
    cases e
    have e1 := hx.int
    have e2 := hy.int
    exact ⟨_, _, by rw [e1, e2], k F H _ (.refl F) r (.int _)⟩
  · cases e
theorem os_mn2 : OpS Z (fun x y H Q => ∃ i j, [x, y] = [.int i, .int j] ∧ Q (.int (if j < i then j else i)) H) fMn2 := by
  intro ρ σ F Fr H x y p q z Q r hx hy e k
  unfold fMn2 fI at e
  split at e
  · simp only [if_true] at e
    cases e
    have e1 := hx.int
    have e2 := hy.int
    exact ⟨_, _, by rw [e1, e2], k F H _ (.refl F) r (.int _)⟩
  · cases e
theorem s_max2 (z : Z.Ok) (hg : Gl Z.X "max") (hm : Z.X.mg "max" = none) (ha : SE Z a ma) (hb : SE Z b mb) (he : starEach [a, b] Z.X.env = (false, eval a Z.X.env) :: starEach [b] Z.X.env := by kernel_rfl) (he2 : starEach [b] Z.X.env = [(false, eval b Z.X.env)] := by kernel_rfl) :
    SE Z (.Call (.Name "max" p) [a, b] [] pos) (mOp fMx2 ma mb) := .mk fun ρ σ F Fr H Q rr h =>
  Ce.of (pe_callB (call_max2 z.calm) hg hm (by decide +kernel) (pa_cons pe_C (pa_cons pe_C pa_nil he2) he) (he := he) (hpl := by rw [he2]; rfl)) (op_run ha hb os_mx2 rr h)
theorem s_min2 (z : Z.Ok) (hg : Gl Z.X "min") (hm : Z.X.mg "min" = none) (ha : SE Z a ma) (hb : SE Z b mb) (he : starEach [a, b] Z.X.env = (false, eval a Z.X.env) :: starEach [b] Z.X.env := by kernel_rfl) (he2 : starEach [b] Z.X.env = [(false, eval b Z.X.env)] := by kernel_rfl) :
    SE Z (.Call (.Name "min" p) [a, b] [] pos) (mOp fMn2 ma mb) := .mk fun ρ σ F Fr H Q rr h =>
  Ce.of (pe_callB (call_min2 z.calm) hg hm (by decide +kernel) (pa_cons pe_C (pa_cons pe_C pa_nil he2) he) (he := he) (hpl := by rw [he2]; rfl)) (op_run ha hb os_mn2 rr h)
end

/-! ### try: body / except x as n: suite -/
def isUn (ρ : Env) (i : Nat) : Bool := match ρ[i]? with
  | some .un => true
  | _ => false
/-- i: e's slot; kn: which are caught; hs: what the suite returns -/
def mTry (i : Nat) (body : MS) (kn : Nat → Bool) (hs : Nat → Option RV) : MS := fun ρ => match body ρ with
  | some (.ex c ρ1) => if kn c = true then (if isUn ρ1 i = true then (match hs c with
      | none => some (.nx ρ1)
      | some x => some (.rt x ρ1)) else none) else some (.ex c ρ1)
  | o => o
theorem Rel.setUn {K : PySem.W.Frag} {B : Nat → Option Addr} {ρ : Env} {F Fr H : Hp} {σ : L2.St} (r : Rel K B ρ F Fr H σ) {i : Nat} (h : isUn ρ i = true) (o : Option V) : Rel K B ρ F Fr H (σ.set i o) := by
  have hi : ρ[i]? = some .un := by
    unfold isUn at h
    split at h
    · assumption
    · cases h
  have ne : ∀ (j : Nat) (s : Slot), ρ[j]? = some s → s ≠ .un → i ≠ j := fun j s e n z => by subst z; rw [hi] at e; cases e; exact n rfl
  refine ⟨by rw [List.length_set]; exact r.len, fun j d e => ?_, fun j d b e => ?_, fun j k d b d' b' a e1 e2 s1 s2 => ?_, r.fz, r.fr, fun j a e => ?_⟩
  · rw [List.getElem?_set_ne (ne j _ e (fun z => by cases z))]; exact r.val j d e
  · rw [List.getElem?_set_ne (ne j _ e (fun z => by cases z))]; exact r.own j d b e
  · rw [List.getElem?_set_ne (ne j _ e1 (fun z => by cases z))] at s1
    rw [List.getElem?_set_ne (ne k _ e2 (fun z => by cases z))] at s2
    exact r.apart j k d b d' b' a e1 e2 s1 s2
  · obtain ⟨g1, d, g2⟩ := r.bor j a e
    exact ⟨by rw [List.getElem?_set_ne (ne j _ g2 (fun z => by cases z))]; exact g1, d, g2⟩
/-- a result stays one when a slot that tells of nothing changes -/
theorem RVRel.setUn {K : PySem.W.Frag} {ρ : Env} {F Fr H : Hp} {σ : L2.St} {v : V} {x : RV} {i : Nat} {o : Option V} (h : RVRel K ρ F Fr H σ v x) (hx : ∀ j, x ≠ .slot j) (hu : isUn ρ i = true) : RVRel K ρ F Fr H (σ.set i o) v x := by
  have hi : ρ[i]? = some .un := by
    unfold isUn at hu
    split at hu
    · assumption
    · cases hu
  cases x with
  | val d => exact h
  | own d =>
    obtain ⟨a, h1, h2, h3, h4, h5⟩ := h
    refine ⟨a, h1, h2, h3, h4, fun j d' b e => ?_⟩
    have n : i ≠ j := fun z => by subst z; rw [hi] at e; cases e
    rw [List.getElem?_set_ne n]
    exact h5 j d' b e
  | slot j => exact absurd rfl (hx j)

abbrev Zx.tr (Z : Zx) (W : WX) (pn : List (Addr × Obj)) (xe : Value → Shared → Prop) : Zx := { Z with X := Z.X.tr pn xe, W := W }
section
variable {Z : Zx} {body suite : List Stmt} {b₀ : Stmt} {np pos pos' : Pos} {mb : MS} {x n : Str} {C : Value} {i : Nat} {kn : Nat → Bool} {hs : Nat → Option RV}
theorem x_try (z : Z.Ok) (i : Nat) (hst : Z.X.stack = Z.X.env :: Z.X.outer) (hf : Z.X.env.frame = some Z.X.env.locals) (hi : Z.X.N[i]? = some n) (hln : Z.X.env.kindOf n = some .local) (hc : L2.Names Z.X x C)
    (hk : ∀ c, PySem.W.exmOne Z.X.K (Z.cls c) C = some (kn c)) (hslot : ∀ c x, hs c = some x → ∀ j, x ≠ .slot j)
    (hb : ∀ (W : WX) (pn : List (Addr × Obj)) (xe : Value → Shared → Prop), (Z.tr W pn xe).Ok → SSs (Z.tr W pn xe) body mb)
    (hsu : ∀ (c : Nat) (a : Addr) (oe : Obj) (pn : List (Addr × Obj)), kn c = true → Zc (Z.cls c) none oe → (∃ vs, oe.data = .fields vs) → US Z.X.K Z.B (Z.X.suite a ((a, oe) :: pn)) i a (b₀ :: suite) (hs c)) :
    SS Z (.Try body [.ExceptHandler (some (.Name x np)) (some n) (b₀ :: suite) pos'] [] [] pos) (mTry i mb kn hs) := by
  refine .mk ?_
  intro ρ σ F Fr H Dd rr h
  refine Cs.of (ps_try_as (tb := fun W Dd σ H => ∀ pn xe, Takes (Z.X.tr pn xe) W → PassesOwn (model Z.X.prog Z.X.w) Z.X.A Z.X.env xe → Css (Z.X.tr pn xe) body Dd σ H)
    (ts := fun a cls d Dd σ H => ∀ oe pn, Zc cls d oe → (∃ vs, oe.data = .fields vs) → Css (Z.X.suite a ((a, oe) :: pn)) (b₀ :: suite) Dd σ H)
    hst hf z.nd hi hln hc z.tk (fun W pn xe tk po => ⟨fun pins s σ H Dd I q => q pn xe tk po pins s I⟩) (fun a oe cls d pn hz hfd => ⟨fun pins s σ H Dd I q => q oe pn hz hfd pins s I⟩)) ?_
  intro pn xe tk po
  refine hb _ pn xe ⟨z.calm, z.nd, z.room, z.gd, tk, po⟩ ρ σ F Fr H Dd rr ?_
  simp only [mTry] at h
  cases e1 : mb ρ with
  | none => rw [e1] at h; exact h
  | some o =>
    rw [e1] at h
    cases o with
    | nx ρ1 => exact h
    | rt r ρ1 => exact h
    | bk ρ1 => exact h
    | ct ρ1 => exact h
    | ex c ρ1 =>
      intro F' H' σ' s' r'
      refine ⟨kn c, hk c, fun hkn a ha => ?_, fun hkn => ?_⟩
      · simp only [hkn, if_true] at h
        split at h
        · rename_i hu
          intro oe pn hz hfd
          have hl : i < σ'.length := by
            rw [r'.len]
            unfold isUn at hu
            split at hu
            · rename_i hh; exact (List.getElem?_eq_some_iff.mp hh).1
            · cases hu
          refine (hsu c a oe pn hkn hz hfd).run ρ1 (σ'.set i (some (.ref a))) F' Fr H' _ (r'.setUn hu _) (List.getElem?_set_self hl) ?_
          cases e2 : hs c with
          | none =>
            rw [e2] at h
            intro H2 r2
            exact h F' H2 _ s' (r2.setUn hu none)
          | some y =>
            rw [e2] at h
            intro H2 v r2 q2
            exact h F' H2 _ v s' r2 q2
        · exact h.elim
      · simp only [hkn] at h
        exact h F' H' σ' s' r'
end
end Pi
set_option maxRecDepth 100000
set_option maxHeartbeats 1000000
/-! the defs of a text; the law's end -/
namespace Pi
open PySem PySem.Spec PyProof.Rows L2

/-- the def of the statement st stands under its name -/
def DefIn (K : PySem.W.Frag) (mg : Str → Option Value) (x : Str) (st : Stmt) : Prop := ∃ (f : Addr) (oc : Value) (od : Option Addr) (kV doc pm : Value) (an : Option Addr) (cdv ct : Value) (osl : Array (Option Value)),
  mg x = some (.ref f) ∧ K.lookup f = some ⟨oc, od, .func (PySem.W.fnOf x x (defArgs st) (defBody st) (defScope st) .none kV doc pm an cdv ct), osl⟩ ∧ PySem.W.codeIn K cdv x = true ∧ PySem.W.keepIn K (.ref f) = true
structure FnA (P : Program) (w : World) (K : PySem.W.Frag) (mg : Str → Option Value) (base : Heap) (cls : Nat → Value) (k : Nat) (x : Str) (n : Nat) (sem : Env → Option Out) : Prop where
  ex : ∃ f fd ps, mg x = some (.ref f) ∧ PySem.W.keepIn K (.ref f) = true ∧ Binds K fd ps [] ∧ ps.length = n ∧ FnG P w K mg base k f fd ps (SpF K cls n sem)
theorem FnG.mono {P : Program} {w : World} {K : PySem.W.Frag} {mg : Str → Option Value} {base : Heap} {k j : Nat} {f : Addr} {fd : FuncData} {ps : List Str} {sp : Sp} (h : FnG P w K mg base j f fd ps sp) (e : j ≤ k) : FnG P w K mg base k f fd ps sp :=
  ⟨h.1, fun A outer s H args us vs Q E hr => h.2 A outer s H args us vs Q E (hr.mono e)⟩
section
variable {P : Program} {w : World} {K : PySem.W.Frag} {mg : Str → Option Value} {base : Heap} {cls : Nat → Value} {k j : Nat} {x : Str} {st : Stmt} {N ps : List Str} {m : MS} {sem : Env → Option Out} {n : Nat}
theorem FnA.mono (h : FnA P w K mg base cls j x n sem) (e : j ≤ k) : FnA P w K mg base cls k x n sem := by
  obtain ⟨f, fd, ps, h1, h2, h3, h4, h5⟩ := h.ex
  exact ⟨f, fd, ps, h1, h2, h3, h4, h5.mono e⟩
/-- for a call in a body -/
theorem FnA.at {X : Cx} (h : FnA X.prog X.w X.K X.mg X.base cls k x n sem) : FnAt X cls k x n sem := ⟨h.ex⟩
theorem fnA_of (D : DefIn K mg x st) (S : FnScope N ps (defScope st))
    (hb : ∀ (kV doc pm cdv ct : Value) (an : Option Addr) (us : List Value), us.length = ps.length → bindArgs (PySem.W.fnOf x x (defArgs st) (defBody st) (defScope st) .none kV doc pm an cdv ct) ⟨us, []⟩ = pure (ps.zip us))
    (hbody : ∀ (f : Addr) (cdv : Value) (A : Around) (outer : List PySem.Env) (s : Shared) (H : Hp) (E : XK) (B : Nat → Option Addr), (Zf P w K mg base cls k N x (defScope st) f cdv A outer s H E B).Ok → SSs (Zf P w K mg base cls k N x (defScope st) f cdv A outer s H E B) (defBody st) m) :
    FnA P w K mg base cls (k + 1) x ps.length (runF N.length m) := by
  obtain ⟨f, oc, od, kV, doc, pm, an, cdv, ct, osl, h1, h2, h3, h4⟩ := D
  exact ⟨f, _, ps, h1, h4, Binds.all fun us hl => hb _ _ _ _ _ _ us hl, rfl, fnG_of h2 h3 S (hbody f cdv)⟩
end

/-! ### the law, called -/
theorem rp_ints {K : PySem.W.Frag} {F : Hp} : ∀ ns : List Int, RpAll K F (ns.map V.int) (ns.map PyData.int)
  | [] => .nil
  | _ :: r => .cons (.int _) (rp_ints r)
/-- what the law's reading must be -/
def LawOk (n : Nat) (sem : Env → Option Out) : Prop := ∀ ns : List Int, ns.length ≤ n → ∃ outs, sem [.val (.list (ns.map PyData.int))] = some (.rt (.val (.bool true)) outs)
section
variable {P : Program} {w : World} {K : PySem.W.Frag} {mg mb : Str → Option Value} {cls : Nat → Value} {k : Nat} {fa a : Addr} {fd : FuncData} {x : Str} {sem : Env → Option Out} {s₁ : Shared} {vs : List Value} {ns : List Int} {n : Nat}
theorem law_sp (hl : LawOk n sem) (hn : ns.length ≤ n) {H : Hp} (hS : SqL K H a (ns.map V.int)) : SpF K cls 1 sem [.ref a] H (fun v _ => v = .bl true) fun _ _ _ => False := by
  obtain ⟨outs, e⟩ := hl ns hn
  refine ⟨rfl, [.val (.list (ns.map PyData.int))], H, fun _ => none, fun _ => none, ⟨rfl, fun i d h => ?_, fun i d b h => ?_, fun i j d b d' b' a h => ?_, fun _ _ h => h, fun b u h => (by cases h), fun i a h => (by cases h)⟩, fun i d b h => ?_, ?_⟩
  · cases i with
    | zero => cases h; exact ⟨_, rfl, .lst hS (rp_ints ns)⟩
    | succ i => simp at h
  · cases i with
    | zero => cases h
    | succ i => simp at h
  · cases i with
    | zero => cases h
    | succ i => simp at h
  · cases i with
    | zero => cases h
    | succ i => simp at h
  · rw [e]
    refine ⟨fun i z => (by cases z), fun F' H' v s r q => ?_⟩
    cases q
    rfl
/-- at the heap behind the top: once what is tracked there is told -/
theorem law_core (KX : K.In s₁.heap) (hns : s₁.heap.Ns mainGlobals mg) (hb : s₁.heap.Ns builtinsNs mb) (hbb : ∀ x : Str, x ≠ "__name__" → mb x = bootBuiltins x) (hlim : s₁.heap.NoLimit) (hg : s₁.gens = #[])
    (ha : s₁.heap.get? a = some { cls := .type "list", data := .seq vs.toArray }) (hr : Room k callerA)
    (hF : ∀ base : Heap, K.In base → base.Ns mainGlobals mg → FnG P w K mg base k fa fd [x] (SpF K cls 1 sem)) (hbind : ∀ (s : Shared) (u : Value), BindsTo s fd ⟨[u], []⟩ [(x, u)])
    (H : Hp) (hH : ∀ b u, H b = some u → b = a ∧ K.lookup a = none ∧ ∃ o ys, u = .frz o (.lst ys)) (hok : HOk P w H s₁.heap) (hsp : SpF K cls 1 sem [.ref a] H (fun v _ => v = .bl true) fun _ _ _ => False) :
    codeAny (model P w) callerA (.call (.ref fa) ⟨[.ref a], []⟩) (fun r s' => r = .ok (.ret (.bool true)) ∧ OldK s₁.heap s'.heap ∧ s'.os = s₁.os ∧ AllBare s'.gens) s₁ := by
  have up : ∀ b o, s₁.heap.get? b = some o → H b = none → (hidT s₁.heap H).get? b = some o := fun b o e n => hidT_get e n
  have only : ∀ b, b ≠ a → H b = none := fun b n => by
    cases q : H b with
    | none => rfl
    | some u => exact absurd (hH b u q).1 n
  have dict0 : ∀ b (m : Str → Option Value), s₁.heap.Ns b m → (hidT s₁.heap H).Ns b m := fun b m h => by
    obtain ⟨o, es, ep, e, d, r⟩ := h
    refine ⟨o, es, ep, up b o e (only b fun z => ?_), d, r⟩
    subst z
    rw [ha] at e
    cases e
    exact (nomatch (show Data.seq vs.toArray _ = Data.dict es ep from d))
  have kin : K.In (hidT s₁.heap H) := fun b o e => up b o (KX b o e) (by
    cases q : H b with
    | none => rfl
    | some u =>
      obtain ⟨z, e2, _⟩ := hH b u q
      subst z
      rw [e2] at e
      cases e)
  have md : Mod K mg (hidT s₁.heap H) := ⟨kin, dict0 _ _ hns, ⟨mb, dict0 _ _ hb, hbb⟩, by
    obtain ⟨mc, h1, h2⟩ := hlim
    exact ⟨mc, dict0 _ _ h1, h2⟩⟩
  have e0 : Env0 P w K mg (hidT s₁.heap H) callerA [] s₁ H :=
    { frames := rfl, mod := md, bs := fun b o e => of_hidT e, bsz := Nat.le_of_eq (hidT_size _ _), funs := trivial, frf := fun b z => (nomatch z), hok := hok, bare := .of_eq hg }
  refine codeAny_mono ((hF _ kin (dict0 _ _ hns)).2 callerA [] s₁ H ⟨[.ref a], []⟩ [.ref a] [.ref a] _ _ hr rfl e0 (hbind s₁ (.ref a)) (.cons rfl .nil) hsp) fun r s' h => ?_
  cases r with
  | error e =>
    obtain ⟨_, _, _, _, _, _, _, _, _, _, _, _, z⟩ := h
    exact z.elim
  | ok fl =>
    cases fl with
    | next => exact False.elim h
    | brk => exact False.elim h
    | cont => exact False.elim h
    | ret u =>
      obtain ⟨v, H', h1, h2, h3, h4, h5, h6⟩ := h
      have h6 : v = .bl true := h6
      subst h6
      have h5 : u = Value.bool true := h5
      subst h5
      refine ⟨rfl, OldK.of_keep fun b o e => ?_, h1, h2⟩
      cases q : H b with
      | none => exact h3.keep b o e q (fun z => (nomatch z)) (fun z => (nomatch z))
      | some u =>
        obtain ⟨_, _, o0, ys, z⟩ := hH b u q
        subst z
        have q2 := h3.frzs b o0 _ q
        obtain ⟨g1, _⟩ := hok b _ q
        obtain ⟨g2, _⟩ := h4 b _ q2
        rw [e] at g1
        cases g1
        exact g2
theorem law_go (KX : K.In s₁.heap) (hns : s₁.heap.Ns mainGlobals mg) (hb : s₁.heap.Ns builtinsNs mb) (hbb : ∀ x : Str, x ≠ "__name__" → mb x = bootBuiltins x) (hlim : s₁.heap.NoLimit) (hg : s₁.gens = #[])
    (ha : s₁.heap.get? a = some { cls := .type "list", data := .seq vs.toArray }) (hi : IntsAre vs ns) (hl : ns.length ≤ n) (hn : n ≤ sizeLine) (hr : Room k callerA)
    (hF : ∀ base : Heap, K.In base → base.Ns mainGlobals mg → FnG P w K mg base k fa fd [x] (SpF K cls 1 sem)) (hbind : ∀ (s : Shared) (u : Value), BindsTo s fd ⟨[u], []⟩ [(x, u)]) (hlaw : LawOk n sem) :
    codeAny (model P w) callerA (.call (.ref fa) ⟨[.ref a], []⟩) (fun r s' => r = .ok (.ret (.bool true)) ∧ OldK s₁.heap s'.heap ∧ s'.os = s₁.os ∧ AllBare s'.gens) s₁ := by
  have rv := vals_ints hi
  have hz : ns.length ≤ sizeLine := Nat.le_trans hl hn
  cases hk : K.lookup a with
  | some o =>
    have e := KX a o hk
    rw [ha] at e
    cases e
    refine law_core (a := a) KX hns hb hbb hlim hg ha hr hF hbind (fun _ => none) (fun b u z => (by cases z)) (fun b u z => (by cases z)) (law_sp hlaw hl ?_)
    exact .inr ⟨_, vs.toArray, _, hk, rfl, rfl, rfl, by rw [List.size_toArray, hi.length]; exact hz, by simpa using rv⟩
  | none =>
    have one : ∀ b u, (if b = a then some (HO.frz { cls := .type "list", data := .seq vs.toArray } (.lst (ns.map V.int))) else none) = some u → b = a ∧ u = HO.frz { cls := .type "list", data := .seq vs.toArray } (.lst (ns.map V.int)) := fun b u z => by
      split at z
      · rename_i e; cases z; exact ⟨e, rfl⟩
      · cases z
    refine law_core (a := a) KX hns hb hbb hlim hg ha hr hF hbind (fun b => if b = a then some (.frz { cls := .type "list", data := .seq vs.toArray } (.lst (ns.map V.int))) else none) (fun b u z => ?_) (fun b u z => ?_) (law_sp hlaw hl ?_)
    · obtain ⟨e1, e2⟩ := one b u z
      exact ⟨e1, hk, _, _, e2⟩
    · obtain ⟨e1, e2⟩ := one b u z
      subst e1 e2
      exact ⟨ha, by rw [List.length_map]; exact hz, vs, _, rv, ha⟩
    · exact .inl (.inr ⟨_, if_pos rfl⟩)
end
/-- the law row, from its reading -/
theorem walk_pi {l : PySem.W.OpenLaw} {n k : Nat} {q : Program} {loose : List Str} {XP : (Str → Option Value) → Heap → Prop} {YP : World → Heap → Prop} {d : DefRec} {K : Params → PySem.W.Frag} {x : Str} {sem : Env → Option Out}
    (hn : l.most = some n) (hn2 : n ≤ sizeLine) (hdf : d.params.defaults = []) (hr : Room k callerA) (hY : ∀ (w : World) (h : Heap), YP w h → (K w.params).In h) (hlaw : LawOk n sem)
    (hF : ∀ (w : World) (mg : Str → Option Value) (fa : Addr) (h : Heap), (K w.params).In h → h.Ns mainGlobals mg → mg d.name = some (.ref fa) →
      ∃ (cls : Nat → Value) (fd : FuncData), (∀ (s : Shared) (u : Value), BindsTo s fd ⟨[u], []⟩ [(x, u)]) ∧ ∀ base : Heap, (K w.params).In base → base.Ns mainGlobals mg → FnG l.prog w (K w.params) mg base k fa fd [x] (SpF (K w.params) cls 1 sem)) :
    PySem.W.WalkO q loose XP YP l.row.toRowW d [] (fun f vs => PySem.call f vs) := by
  refine Att.attach_call hn hdf fun w s₀ s₁ mg mb fa o pm cd doc a vs ns G Y ho hd hcd hmg hobj hints hlen hg => ?_
  obtain ⟨cls, fd, hb, hFF⟩ := hF w mg fa _ (hY w _ Y) G.T.g hmg
  exact law_go (hY w _ Y) G.T.g G.T.b G.T.builtins G.T.nolimit hg hobj hints hlen hn2 hr hFF hb hlaw
end Pi
set_option maxRecDepth 100000
set_option maxHeartbeats 1000000
/-! helps for printed derivations -/
namespace Pi
open PySem PySem.Spec PyProof.Rows L2

/-- how many arguments a row of them gives -/
def Ln (mr : MA) (n : Nat) : Prop := ∀ ρ l ρ', mr ρ = some (.ok l ρ') → l.length = n
theorem ln_nil : Ln mNilA 0 := fun ρ l ρ' e => by cases e; rfl
theorem ln_val {m : M} {mr : MA} {n : Nat} (h : Ln mr n) : Ln (mConsV m mr) (n + 1) := fun ρ l ρ' e => by
  simp only [mConsV] at e
  cases e1 : m ρ with
  | none => rw [e1] at e; cases e
  | some o => cases o with
    | ex c ρ1 => rw [e1] at e; cases e
    | ok x ρ1 =>
      rw [e1] at e
      simp only [Res.bind] at e
      split at e
      · rename_i d ρ2 ee
        cases e2 : mr ρ2 with
        | none => rw [e2] at e; cases e
        | some o => cases o with
          | ex c ρ3 => rw [e2] at e; cases e
          | ok t ρ3 => rw [e2] at e; cases e; exact congrArg (· + 1) (h _ _ _ e2)
      · cases e
theorem ln_ref {i : Nat} {mr : MA} {n : Nat} (h : Ln mr n) : Ln (mConsR i mr) (n + 1) := fun ρ l ρ' e => by
  simp only [mConsR] at e
  split at e
  · cases e2 : mr ρ with
    | none => rw [e2] at e; cases e
    | some o => cases o with
      | ex c ρ3 => rw [e2] at e; cases e
      | ok t ρ3 => rw [e2] at e; cases e; exact congrArg (· + 1) (h _ _ _ e2)
  · cases e

theorem s_callL {Z : Zx} {es : List Expr} {e : Expr} {mr : MA} {x : Str} {sem : Env → Option Out} {n : Nat} {p pos : Pos} (z : Z.Ok) (h : FnAt Z.X Z.cls Z.k x n sem) (hg : Gl Z.X x) (ha : SA Z (e :: es) mr) (hml : Ln mr n) (hdb : (x == ("__debug__" : Str)) = false := by kernel_rfl)
    (he : starEach (e :: es) Z.X.env = (false, eval e Z.X.env) :: starEach es Z.X.env := by kernel_rfl) (hpl : (backTo pos (starEach es Z.X.env)).any (·.1) = false := by kernel_rfl) (hl : (e :: es).length = n := by kernel_rfl) :
    SE Z (.Call (.Name x p) (e :: es) [] pos) (mCall sem mr) := s_call z h hg ha hdb he hpl hl hml
/-- a constant of the module -/
def ConstIn (K : PySem.W.Frag) (mg : Str → Option Value) (x : Str) (d : D) : Prop := ∃ v u, mg x = some u ∧ RelV v u ∧ ∀ F, Rp K F v d
section
variable {Z : Zx} {pos : Pos} {x : Str} {d : D}
theorem s_const (h : ConstIn Z.X.K Z.X.mg x d) (hg : Gl Z.X x) (hd : (x == ("__debug__" : Str)) = false := by kernel_rfl) : SE Z (.Name x pos) (mC d) := by
  obtain ⟨v, u, h1, h2, h3⟩ := h
  exact s_glob hg h1 h2 h3 hd
end
theorem const_int {K : PySem.W.Frag} {mg : Str → Option Value} {x : Str} {i : Int} {t : Nat} (h : mg x = some (.int i t)) : ConstIn K mg x (.int i) := ⟨.int i, _, h, ⟨t, rfl⟩, fun F => .int i⟩
theorem rp_intsT {K : PySem.W.Frag} {F : Hp} : ∀ {us : List Value} {is : List Int}, IntsAre us is → RpAll K F (is.map V.int) (is.map PyData.int)
  | _, is, _ => rp_ints is
theorem const_intsT {K : PySem.W.Frag} {mg : Str → Option Value} {x : Str} {a : Addr} {dd : Option Addr} {us : List Value} {n : Nat} {sl : Array (Option Value)} {is : List Int} (h : mg x = some (.ref a)) (hk : K.lookup a = some ⟨.type "tuple", dd, .seq us.toArray n, sl⟩) (hi : IntsAre us is) (hl : is.length ≤ 1000) :
    ConstIn K mg x (.tuple (is.map PyData.int)) :=
  ⟨.ref a, .ref a, h, rfl, fun F => .tup (.inr ⟨_, us.toArray, _, hk, rfl, rfl, by rw [List.size_toArray, hi.length]; exact Nat.le_of_lt (small1000 hl), by simpa using vals_ints hi⟩) (rp_intsT hi)⟩

/-- a suite's results -/
def orR (r r' : Option RV) : Option RV := match r with
  | none => r'
  | some x => some x
theorem us_more {K : PySem.W.Frag} {B : Nat → Option Addr} {X : Cx} {i : Nat} {a : Addr} {st : Stmt} {rest : List Stmt} {r r' : Option RV} (h : US1 K B X i a st r) (h' : US K B X i a rest r') : US K B X i a (st :: rest) (orR r r') := by
  have q := us_cons h h'
  cases r <;> exact q
theorem rp_if {K : PySem.W.Frag} {v w : V} {d e : D} {b : Bool} (h : ∀ F, Rp K F v d) (h' : ∀ F, Rp K F w e) : ∀ F, Rp K F (if b = true then v else w) (if b = true then d else e) := fun F => by
  cases b with
  | true => exact h F
  | false => exact h' F
theorem orR_slot {r r' : Option RV} (h : ∀ x, r = some x → ∀ j, x ≠ .slot j) (h' : ∀ x, r' = some x → ∀ j, x ≠ .slot j) : ∀ x, orR r r' = some x → ∀ j, x ≠ .slot j := by
  cases r with
  | none => exact h'
  | some y => exact h
theorem ifR_slot {b : Bool} {r r' : Option RV} (h : ∀ x, r = some x → ∀ j, x ≠ .slot j) (h' : ∀ x, r' = some x → ∀ j, x ≠ .slot j) : ∀ x, (if b = true then r else r') = some x → ∀ j, x ≠ .slot j := by
  cases b with
  | true => exact h
  | false => exact h'
theorem noneR_slot : ∀ x, (none : Option RV) = some x → ∀ j, x ≠ .slot j := fun x e => nomatch e
theorem valR_slot {d : D} : ∀ x, some (RV.val d) = some x → ∀ j, x ≠ .slot j := fun x e j z => by cases e; cases z
theorem ownR_slot {d : D} : ∀ x, some (RV.own d) = some x → ∀ j, x ≠ .slot j := fun x e j z => by cases e; cases z
/-- the type objects -/
theorem mt_tuple : ∀ s' : Shared, s'.TypeIs (.type "tuple") "type" := fun s' => PySem.TypeEq.meta_tuple s'
theorem mt_int : ∀ s' : Shared, s'.TypeIs (.type "int") "type" := fun s' => PySem.TypeEq.meta_int s'
theorem mt_list : ∀ s' : Shared, s'.TypeIs (.type "list") "type" := fun s' => PySem.TypeEq.meta_list s'
theorem mt_str : ∀ s' : Shared, s'.TypeIs (.type "str") "type" := fun s' => PySem.TypeEq.meta_str s'
theorem bb_tuple : bootBuiltins "tuple" = some (.type "tuple") := by decide +kernel
theorem bb_list : bootBuiltins "list" = some (.type "list") := by decide +kernel
theorem bb_int : bootBuiltins "int" = some (.type "int") := by decide +kernel
theorem bb_str : bootBuiltins "str" = some (.type "str") := by decide +kernel
theorem bb_bool : bootBuiltins "bool" = some (.type "bool") := by decide +kernel
theorem bb_dict : bootBuiltins "dict" = some (.type "dict") := by decide +kernel
theorem bb_ValueError : bootBuiltins "ValueError" = some (.type "ValueError") := by decide +kernel
end Pi
set_option maxRecDepth 100000
set_option maxHeartbeats 1000000
/-! the pure side: helps -/
namespace Pi
open PySem PySem.Spec L2

def fr : Slot → Bool
  | .un => true
  | .val _ => true
  | .own _ b => !b
theorem free_eq (ρ : Env) (i : Nat) : free ρ i = ((ρ[i]?).map fr).getD false := by
  unfold free
  cases ρ[i]? with
  | none => rfl
  | some s => cases s <;> rfl
/-- a for whose body never leaves -/
theorem forL_all {g : MG} {body : MS} (I : Nat → Env → Prop) : ∀ (ds : List D) (i : Nat) (ρ : Env), I i ρ →
    (∀ (j : Nat) (d : D) (ρ : Env), ds[j]? = some d → I (i + j) ρ → ∃ ρ1, g d ρ = some ρ1 ∧ ∃ ρ2, body ρ1 = some (.nx ρ2) ∧ I (i + j + 1) ρ2) → ∃ ρ', forL g body ds ρ = some (.nx ρ') ∧ I (i + ds.length) ρ'
  | [], i, ρ, h, _ => ⟨ρ, rfl, h⟩
  | d :: r, i, ρ, h, st => by
    obtain ⟨ρ1, e1, ρ2, e2, h2⟩ := st 0 d ρ rfl h
    obtain ⟨ρ', e3, h3⟩ := forL_all I r (i + 1) ρ2 (by simpa using h2) fun j d' ρ e hI => by
      have := st (j + 1) d' ρ (by simpa using e) (by rw [show i + (j + 1) = i + 1 + j by omega]; exact hI)
      rw [show i + (j + 1) + 1 = i + 1 + j + 1 by omega] at this
      exact this
    refine ⟨ρ', ?_, by rw [List.length_cons, show i + (r.length + 1) = i + 1 + r.length by omega]; exact h3⟩
    simp only [forL, e1, e2, e3]
/-- ints -/
theorem get_ints {ns : List Int} {j : Nat} {d : D} (h : (ns.map PyData.int)[j]? = some d) : ∃ n, ns[j]? = some n ∧ d = .int n := by
  rw [List.getElem?_map] at h
  cases e : ns[j]? with
  | none => rw [e] at h; cases h
  | some n => rw [e] at h; cases h; exact ⟨n, rfl, rfl⟩
theorem get_rng {n j : Nat} {d : D} (h : ((List.range n).map fun i => PyData.int (i : Nat))[j]? = some d) : j < n ∧ d = .int (j : Nat) := by
  rw [List.getElem?_map] at h
  by_cases hj : j < n
  · rw [List.getElem?_range hj] at h; cases h; exact ⟨hj, rfl⟩
  · rw [List.getElem?_eq_none (by simpa using hj)] at h; cases h
/-- a comprehension of one name whose readings change nothing else -/
theorem lcL_pure {i : Nat} {c : MT} {e : M} {q : D → Bool} {f : D → D} {ρ : Env} (hi : i < ρ.length) : ∀ (ds acc : List D) (ρ' : Env), ρ'.set i .un = ρ.set i .un → vfree ρ' i = true →
    (∀ d ∈ ds, c (ρ.set i (.val d)) = some (.ok (q d) (ρ.set i (.val d)))) →
    (∀ d ∈ ds, q d = true → ∃ x, e (ρ.set i (.val d)) = some (.ok x (ρ.set i (.val d))) ∧ esc (ρ.set i (.val d)) x = some (f d, ρ.set i (.val d))) →
    ∃ ρ'', lcL (gN i) c e [i] ds acc ρ' = some (.ok (acc ++ (ds.filter q).map f) ρ'') ∧ ρ''.set i .un = ρ.set i .un ∧ vfree ρ'' i = true
  | [], acc, ρ', h, hv, _, _ => ⟨ρ', by simp [lcL], h, hv⟩
  | d :: r, acc, ρ', h, hv, hc, he => by
    have hs : (wipeE ρ' [i]) = ρ.set i .un := h
    have hg : gN i d (ρ.set i .un) = some (ρ.set i (.val d)) := by
      unfold gN
      rw [free_eq, List.getElem?_set_self hi]
      simp [fr]
    have hb : (ρ.set i (.val d)).set i .un = ρ.set i .un := by simp
    have hv2 : vfree (ρ.set i (.val d)) i = true := by unfold vfree; rw [List.getElem?_set_self hi]
    have fr1 : frees ρ' [i] = true := by simp [frees, hv]
    simp only [lcL, fr1, if_true, hs, hg, hc d List.mem_cons_self]
    cases hq : q d with
    | false =>
      obtain ⟨ρ'', h1, h2, h3⟩ := lcL_pure hi r acc _ hb hv2 (fun d hd => hc d (List.mem_cons_of_mem _ hd)) (fun d hd => he d (List.mem_cons_of_mem _ hd))
      exact ⟨ρ'', by simpa [hq] using h1, h2, h3⟩
    | true =>
      obtain ⟨x, e1, e2⟩ := he d List.mem_cons_self hq
      obtain ⟨ρ'', h1, h2, h3⟩ := lcL_pure hi r (acc ++ [f d]) _ hb hv2 (fun d hd => hc d (List.mem_cons_of_mem _ hd)) (fun d hd => he d (List.mem_cons_of_mem _ hd))
      refine ⟨ρ'', ?_, h2, h3⟩
      simp only [e1, e2, h1]
      simp [hq]
theorem mLc_pure {i : Nat} {it : MI} {c : MT} {e : M} {q : D → Bool} {f : D → D} {ρ ρ1 : Env} {ds : List D} (hit : it ρ = some (.ok ds ρ1)) (hl : ds.length ≤ big) (hv : vfree ρ1 i = true)
    (hc : ∀ d ∈ ds, c (ρ1.set i (.val d)) = some (.ok (q d) (ρ1.set i (.val d))))
    (he : ∀ d ∈ ds, q d = true → ∃ x, e (ρ1.set i (.val d)) = some (.ok x (ρ1.set i (.val d))) ∧ esc (ρ1.set i (.val d)) x = some (f d, ρ1.set i (.val d))) :
    mLc it (gN i) c e [i] ρ = some (.ok (.own (.list ((ds.filter q).map f))) ρ1) := by
  have hi : i < ρ1.length := by
    unfold vfree at hv
    cases h : ρ1[i]? with
    | none => rw [h] at hv; cases hv
    | some s => exact (List.getElem?_eq_some_iff.mp h).1
  obtain ⟨ρ'', h1, h2, h3⟩ := lcL_pure (c := c) (e := e) (q := q) (f := f) hi ds [] ρ1 rfl hv hc he
  have f1 : frees ρ1 [i] = true := by simp [frees, hv]
  have f2 : frees ρ'' [i] = true := by simp [frees, h3]
  have hr : restE ρ1 ρ'' [i] = ρ1 := by
    show ρ''.set i (ρ1.getD i .un) = ρ1
    have := congrArg (fun l => List.set l i (ρ1.getD i .un)) h2
    simp only [List.set_set] at this
    rw [this]
    apply List.ext_getElem?
    intro j
    by_cases hj : j = i
    · subst hj; rw [List.getElem?_set_self hi]; simp [List.getD, List.getElem?_eq_getElem hi]
    · rw [List.getElem?_set_ne (Ne.symm hj)]
  unfold mLc
  simp only [hit, Res.bind, hl, f1, and_self, if_true, h1, lcEnd, f2, hr]
  simp
/-! ### step by step -/
section
variable {a b : MS} {t : MT} {m k : M} {ρ ρ1 ρ2 : Env} {r : RV} {c n : Nat} {x y : RV} {p q : D} {ins : Env}
theorem seq_nx (h : a ρ = some (.nx ρ1)) : mSeq a b ρ = b ρ1 := by simp only [mSeq, h]
theorem seq_rt (h : a ρ = some (.rt r ρ1)) : mSeq a b ρ = some (.rt r ρ1) := by simp only [mSeq, h]
theorem seq_ex (h : a ρ = some (.ex c ρ1)) : mSeq a b ρ = some (.ex c ρ1) := by simp only [mSeq, h]
theorem if_t (h : t ρ = some (.ok true ρ1)) : mIf t a b ρ = a ρ1 := by simp only [mIf, h, if_true]
theorem if_f (h : t ρ = some (.ok false ρ1)) : mIf t a b ρ = b ρ1 := by simp [mIf, h]
theorem ret_of (h : m ρ = some (.ok r ρ1)) : mRet m ρ = some (.rt r ρ1) := by simp only [mRet, h]
theorem run_rt {mb : MS} (h : mb (ins ++ List.replicate (n - ins.length) .un) = some (.rt r ρ1)) (hg : giveR ρ1 r = some x) : runF n mb ins = some (.rt x (left ins ρ1)) := by simp only [runF, h, hg, Option.map_some]
theorem run_nx {mb : MS} (h : mb (ins ++ List.replicate (n - ins.length) .un) = some (.nx ρ1)) : runF n mb ins = some (.rt (.val .none) (left ins ρ1)) := by simp only [runF, h]
theorem run_ex {mb : MS} (h : mb (ins ++ List.replicate (n - ins.length) .un) = some (.ex c ρ1)) : runF n mb ins = some (.ex c (left ins ρ1)) := by simp only [runF, h]
/-- an operation on plain values -/
theorem op_of {f : D → D → Option RV} (h1 : m ρ = some (.ok (.val p) ρ1)) (h2 : k ρ1 = some (.ok (.val q) ρ2)) (h3 : f p q = some r) : mOp f m k ρ = some (.ok r ρ2) := by
  simp only [mOp, h1, h2, Res.bind, rd, h3, Option.map_some]
theorem un_of {f : D → Option RV} (h1 : m ρ = some (.ok x ρ1)) (h2 : rd ρ1 x = some p) (h3 : f p = some r) : mUn f m ρ = some (.ok r ρ1) := by
  simp only [mUn, h1, Res.bind, h2, h3, Option.map_some]
theorem tru_of_ok {v : Bool} (h1 : m ρ = some (.ok x ρ1)) (h2 : rd ρ1 x = some p) (h3 : truD p = some v) : mTru m ρ = some (.ok v ρ1) := by
  simp only [mTru, h1, Res.bind, h2, h3]
  try rfl
theorem tor_t {t u : MT} (h : t ρ = some (.ok true ρ1)) : mtOr t u ρ = some (.ok true ρ1) := by simp only [mtOr, h, Res.bind, if_true]
theorem tor_f {t u : MT} (h : t ρ = some (.ok false ρ1)) : mtOr t u ρ = u ρ1 := by simp [mtOr, h, Res.bind]
theorem tand_t {t u : MT} (h : t ρ = some (.ok true ρ1)) : mtAnd t u ρ = u ρ1 := by simp [mtAnd, h, Res.bind]
theorem tand_f {t u : MT} (h : t ρ = some (.ok false ρ1)) : mtAnd t u ρ = some (.ok false ρ1) := by simp [mtAnd, h, Res.bind]
theorem tnot_of {t : MT} {v : Bool} (h : t ρ = some (.ok v ρ1)) : mtNot t ρ = some (.ok (!v) ρ1) := by simp [mtNot, h, Res.bind]
end
theorem eqv_int (i j : Int) : PyData.eqv (.int i) (.int j) = decide (i = j) := by
  by_cases h : i = j <;> simp [PyData.eqv, h]
theorem shaped_int (i : Int) : SeqAt.shaped (.int i) = true := rfl
theorem ne_ints (i j : Int) : fNe (.int i) (.int j) = some (.val (.bool (!decide (i = j)))) := by
  simp [fNe, fOr, fEqS, fNeD, shaped_int, eqv_int]
theorem eq_ints (i j : Int) : fEq (.int i) (.int j) = some (.val (.bool (decide (i = j)))) := by
  simp [fEq, fOr, fEqS, fEqD, shaped_int, eqv_int]
theorem truD_bool (b : Bool) : truD (.bool b) = some b := rfl
theorem truD_list (l : List D) : truD (.list l) = some (!l.isEmpty) := rfl
theorem ins_vals {ρ : Env} : ∀ ds : List D, insOf ρ (ds.map AV.val) = some (ds.map Slot.val)
  | [] => rfl
  | d :: r => by simp [insOf, ins_vals r]
theorem refs_vals : ∀ ds : List D, refsOf (ds.map AV.val) = []
  | [] => rfl
  | d :: r => by simp [refsOf, refs_vals r]
theorem back_vals {ρ : Env} : ∀ (ds : List D) (os : Env), os.length = ds.length → back ρ (ds.map AV.val) os = some ρ
  | [], os, _ => by simp [back]
  | d :: r, [], h => by simp at h
  | d :: r, o :: os, h => by simp only [List.map_cons, back]; exact back_vals r os (by simpa using h)
/-- a call whose arguments are plain -/
theorem call_of {f : Env → Option Out} {a : MA} {ρ ρ1 outs : Env} {ds : List D} {r : RV} (h : a ρ = some (.ok (ds.map AV.val) ρ1)) (hf : f (ds.map Slot.val) = some (.rt r outs)) (ho : outs.length = ds.length) (hr : ∀ i, r ≠ .slot i) : mCall f a ρ = some (.ok r ρ1) := by
  simp only [mCall, h, Res.bind, ins_vals, refs_vals, List.nodup_nil, if_true, hf]
  cases r with
  | slot i => exact absurd rfl (hr i)
  | val d => simp only [back_vals ds outs ho, Option.map_some]
  | own d => simp only [back_vals ds outs ho, Option.map_some]
theorem boolsD_map : ∀ bs : List Bool, boolsD (bs.map PyData.bool) = some bs
  | [] => rfl
  | b :: r => by simp [boolsD, boolsD_map r]
theorem all_map {α : Type} (l : List α) (b : α → Bool) : fAll (.list (l.map fun x => PyData.bool (b x))) = some (.val (.bool (l.all b))) := by
  have : l.map (fun x => PyData.bool (b x)) = (l.map b).map PyData.bool := by rw [List.map_map]; rfl
  simp only [fAll, this, boolsD_map, Option.map_some]
  simp [List.all_map, Function.comp_def]
theorem mLc_map {i : Nat} {it : MI} {e : M} {f : D → D} {ρ ρ1 : Env} {ds : List D} (hit : it ρ = some (.ok ds ρ1)) (hl : ds.length ≤ big) (hv : vfree ρ1 i = true)
    (he : ∀ d ∈ ds, ∃ x, e (ρ1.set i (.val d)) = some (.ok x (ρ1.set i (.val d))) ∧ esc (ρ1.set i (.val d)) x = some (f d, ρ1.set i (.val d))) :
    mLc it (gN i) mYes e [i] ρ = some (.ok (.own (.list (ds.map f))) ρ1) := by
  have := mLc_pure (c := mYes) (q := fun _ => true) (f := f) hit hl hv (fun d _ => rfl) (fun d hd _ => he d hd)
  rwa [List.filter_eq_self.mpr (fun _ _ => rfl)] at this
theorem tup_or (t : D) : (∃ xs, t = .tuple xs) ∨ (tyN t ≠ "tuple") := by
  cases t with
  | tuple xs => exact .inl ⟨xs, rfl⟩
  | _ => exact .inr (by simp [tyN])
/-! ### comprehensions of several names -/
theorem wipeE_at (ρ : Env) (j : Nat) : ∀ vs : List Nat, (wipeE ρ vs)[j]? = if j ∈ vs then (ρ[j]?).map (fun _ => Slot.un) else ρ[j]?
  | [] => by simp [wipeE]
  | v :: vs => by
    have ih := wipeE_at ρ j vs
    unfold wipeE
    by_cases h : v = j
    · subst h
      by_cases hl : v < ρ.length
      · rw [List.getElem?_set_self (by rw [wipeE_len]; exact hl)]
        simp [List.getElem?_eq_getElem hl]
      · rw [List.getElem?_eq_none (by rw [List.length_set, wipeE_len]; omega)]
        simp [List.getElem?_eq_none (by omega : ρ.length ≤ v)]
    · rw [List.getElem?_set_ne h, ih]
      simp [Ne.symm h]
theorem restE_at (ρ0 ρ : Env) (hl : ρ.length = ρ0.length) (j : Nat) : ∀ vs : List Nat, (restE ρ0 ρ vs)[j]? = if j ∈ vs then ρ0[j]? else ρ[j]?
  | [] => by simp [restE]
  | v :: vs => by
    have ih := restE_at ρ0 ρ hl j vs
    have len : (restE ρ0 ρ vs).length = ρ.length := by
      clear ih
      induction vs with
      | nil => rfl
      | cons w ws ih => unfold restE; rw [List.length_set]; exact ih
    unfold restE
    by_cases h : v = j
    · subst h
      by_cases hv : v < ρ.length
      · rw [List.getElem?_set_self (by rw [len]; exact hv)]
        have : v < ρ0.length := by omega
        simp [List.getD, List.getElem?_eq_getElem this]
      · rw [List.getElem?_eq_none (by rw [List.length_set, len]; omega)]
        simp [List.getElem?_eq_none (by omega : ρ0.length ≤ v)]
    · rw [List.getElem?_set_ne h, ih]
      simp [Ne.symm h]
theorem rest_wipe {ρ1 ρ2 : Env} {vs : List Nat} (h : wipeE ρ2 vs = wipeE ρ1 vs) : restE ρ1 ρ2 vs = ρ1 := by
  have hl : ρ2.length = ρ1.length := by rw [← wipeE_len ρ2 vs, h, wipeE_len]
  apply List.ext_getElem?
  intro j
  rw [restE_at ρ1 ρ2 hl j vs]
  by_cases hj : j ∈ vs
  · rw [if_pos hj]
  · rw [if_neg hj]
    have := congrArg (fun l => l[j]?) h
    simp only [wipeE_at, if_neg hj] at this
    exact this
theorem lcL_many {g : MG} {e : M} {vs : List Nat} {f : D → D} {ρ : Env} : ∀ (ds acc : List D) (ρ' : Env), wipeE ρ' vs = wipeE ρ vs → frees ρ' vs = true →
    (∀ d ∈ ds, ∃ ρd x, g d (wipeE ρ vs) = some ρd ∧ e ρd = some (.ok x ρd) ∧ esc ρd x = some (f d, ρd) ∧ wipeE ρd vs = wipeE ρ vs ∧ frees ρd vs = true) →
    ∃ ρ'', lcL g mYes e vs ds acc ρ' = some (.ok (acc ++ ds.map f) ρ'') ∧ wipeE ρ'' vs = wipeE ρ vs ∧ frees ρ'' vs = true
  | [], acc, ρ', h, hv, _ => ⟨ρ', by simp [lcL], h, hv⟩
  | d :: r, acc, ρ', h, hv, he => by
    obtain ⟨ρd, x, h1, h2, h3, h4, h5⟩ := he d List.mem_cons_self
    obtain ⟨ρ'', k1, k2, k3⟩ := lcL_many r (acc ++ [f d]) ρd h4 h5 fun d hd => he d (List.mem_cons_of_mem _ hd)
    refine ⟨ρ'', ?_, k2, k3⟩
    simp only [lcL, hv, if_true, h, h1, mYes, h2, h3, k1]
    simp
theorem mLc_many {g : MG} {e : M} {it : MI} {vs : List Nat} {f : D → D} {ρ ρ1 : Env} {ds : List D} (hit : it ρ = some (.ok ds ρ1)) (hl : ds.length ≤ big) (hv : frees ρ1 vs = true)
    (he : ∀ d ∈ ds, ∃ ρd x, g d (wipeE ρ1 vs) = some ρd ∧ e ρd = some (.ok x ρd) ∧ esc ρd x = some (f d, ρd) ∧ wipeE ρd vs = wipeE ρ1 vs ∧ frees ρd vs = true) :
    mLc it g mYes e vs ρ = some (.ok (.own (.list (ds.map f))) ρ1) := by
  obtain ⟨ρ'', h1, h2, h3⟩ := lcL_many (f := f) ds [] ρ1 rfl hv he
  unfold mLc
  simp only [hit, Res.bind, hl, hv, and_self, if_true, h1, lcEnd, h3, rest_wipe h2]
  simp
theorem not_of {m : M} {ρ ρ1 : Env} {x : RV} {p : D} {v : Bool} (h1 : m ρ = some (.ok x ρ1)) (h2 : rd ρ1 x = some p) (h3 : truD p = some v) : mNot m ρ = some (.ok (.val (.bool (!v))) ρ1) :=
  un_of h1 h2 (by simp [h3])
theorem empty_all (q : D → Bool) : ∀ l : List D, (!!(l.filter fun d => !q d).isEmpty) = l.all q
  | [] => rfl
  | d :: r => by
    have := empty_all q r
    cases h : q d <;> simp_all
theorem consV_of {a : M} {r : MA} {ρ ρ1 ρ2 ρ3 : Env} {x : RV} {d : D} {l : List AV} (h1 : a ρ = some (.ok x ρ1)) (hx : esc ρ1 x = some (d, ρ2)) (h2 : r ρ2 = some (.ok l ρ3)) : mConsV a r ρ = some (.ok (.val d :: l) ρ3) := by
  simp only [mConsV, h1, Res.bind, hx, h2]
theorem and_t {a b : M} {ρ ρ1 : Env} (h : a ρ = some (.ok (.val (.bool true)) ρ1)) : mAnd a b ρ = b ρ1 := by simp only [mAnd, h, Res.bind, rd, truD_bool]
theorem and_f {a b : M} {ρ ρ1 : Env} (h : a ρ = some (.ok (.val (.bool false)) ρ1)) : mAnd a b ρ = some (.ok (.val (.bool false)) ρ1) := by simp only [mAnd, h, Res.bind, rd, truD_bool, RV.fz]
theorem op_rd {f : D → D → Option RV} {m k : M} {ρ ρ1 ρ2 : Env} {x y r : RV} {p q : D} (h1 : m ρ = some (.ok x ρ1)) (h2 : k ρ1 = some (.ok y ρ2)) (hx : rd ρ2 x = some p) (hy : rd ρ2 y = some q) (h3 : f p q = some r) : mOp f m k ρ = some (.ok r ρ2) := by
  simp only [mOp, h1, h2, Res.bind, hx, hy, h3, Option.map_some]
theorem putL_of {i : Nat} {k m : M} {ρ ρ1 ρ2 ρ3 : Env} {x y : RV} {d : D} {l ds : List D} {b b' : Bool} {a : Int} {j : Nat} (h : m ρ = some (.ok x ρ1)) (he : esc ρ1 x = some (d, ρ2)) (hi : ρ2[i]? = some (.own (.list l) b')) (hk : k ρ2 = some (.ok y ρ3)) (hy : rd ρ3 y = some (.int a))
    (h3 : ρ3[i]? = some (.own (.list ds) b)) (hj : ixN ds.length a = some j) : mPutL i k m ρ = some (.nx (ρ3.set i (.own (.list (ds.set j d)) b))) := by
  simp only [mPutL, h, he, hi, hk, hy, h3, hj]
theorem app_of {i : Nat} {m : M} {ρ ρ1 : Env} {ds : List D} {b : Bool} {d : D} {l : List D} {b' : Bool} (h0 : ρ[i]? = some (.own (.list l) b')) (h : m ρ = some (.ok (.val d) ρ1)) (hi : ρ1[i]? = some (.own (.list ds) b)) (hl : ds.length < 1000000) : mExpr (mApp i m) ρ = some (.nx (ρ1.set i (.own (.list (ds ++ [d])) b))) := by
  have hl' : ds.length < big := hl
  simp only [mExpr, mApp, h0, h, Res.bind, esc, hi, hl', if_true]
theorem set_of {i : Nat} {m : M} {ρ ρ1 : Env} {d : D} (h : m ρ = some (.ok (.val d) ρ1)) (hf : free ρ1 i = true) : mSet i m ρ = some (.nx (ρ1.set i (.val d))) := by
  simp only [mSet, h, putR, hf, if_true, Option.map_some]
theorem setO_of {i : Nat} {m : M} {ρ ρ1 : Env} {d : D} (h : m ρ = some (.ok (.own d) ρ1)) (hf : free ρ1 i = true) : mSet i m ρ = some (.nx (ρ1.set i (.own d false))) := by
  simp only [mSet, h, putR, hf, if_true, Option.map_some]
theorem for_of {it : MI} {g : MG} {body : MS} {ρ ρ1 : Env} {ds : List D} (h : it ρ = some (.ok ds ρ1)) : mFor it g body ρ = forL g body ds ρ1 := by simp only [mFor, h]
theorem gN_of {i : Nat} {d : D} {ρ : Env} (h : free ρ i = true) : gN i d ρ = some (ρ.set i (.val d)) := by simp only [gN, h, if_true]
theorem rng_of (k : Nat) (hk : k ≤ 1000000) {ρ : Env} {m : M} {ρ1 : Env} (h : m ρ = some (.ok (.val (.int (k : Nat))) ρ1)) : Pi.iRng1 m ρ = some (.ok ((List.range k).map fun i => .int (i : Nat)) ρ1) := by
  have h1 : (k : Int) ≤ 1000000 ∧ (-1000000 : Int) ≤ (k : Int) := by omega
  simp only [Pi.iRng1, h, Res.bind, rd, h1, and_self, if_true, Int.toNat_natCast]
theorem seq_it {m : M} {ρ ρ1 ρ2 : Env} {x : RV} {ds : List D} (h : m ρ = some (.ok x ρ1)) (he : esc ρ1 x = some (.list ds, ρ2)) (hl : ds.length ≤ 1000000) : Pi.iSeq m ρ = some (.ok ds ρ2) := by
  have hl' : ds.length ≤ big := hl
  simp only [Pi.iSeq, h, Res.bind, he, hl', if_true]
theorem fI_mul {i j : Int} (h : cMul i j = true) : fMul (.int i) (.int j) = some (.val (.int (i * j))) := by simp only [fMul, fOr, fI, h, if_true, Option.some_or]
theorem add_ints (i j : Int) : fAdd (.int i) (.int j) = some (.val (.int (i + j))) := rfl
theorem mod_ints {i j : Int} (h : 0 < j) : fMod (.int i) (.int j) = some (.val (.int (i % j))) := by simp only [fMod, fI, decide_eq_true h, if_true]
theorem div_ints {i j : Int} (h : 0 < j ∧ j < 1073741824) : fDiv (.int i) (.int j) = some (.val (.int (i / j))) := by simp only [fDiv, fI, decide_eq_true h, if_true]
theorem lcL_ind {g : MG} {e : M} {vs : List Nat} (I : Nat → List D → Env → Prop) : ∀ (ds : List D) (i : Nat) (acc : List D) (ρ : Env), I i acc ρ →
    (∀ (j : Nat) (d : D) (acc : List D) (ρ : Env), ds[j]? = some d → I (i + j) acc ρ → frees ρ vs = true ∧ ∃ ρ1 x ρ2 y ρ3, g d (wipeE ρ vs) = some ρ1 ∧ e ρ1 = some (.ok x ρ2) ∧ esc ρ2 x = some (y, ρ3) ∧ I (i + j + 1) (acc ++ [y]) ρ3) →
    ∃ acc' ρ', lcL g mYes e vs ds acc ρ = some (.ok acc' ρ') ∧ I (i + ds.length) acc' ρ'
  | [], i, acc, ρ, h, _ => ⟨acc, ρ, by simp only [lcL], h⟩
  | d :: r, i, acc, ρ, h, st => by
    obtain ⟨hf, ρ1, x, ρ2, y, ρ3, e1, e2, e3, h2⟩ := st 0 d acc ρ rfl h
    obtain ⟨acc', ρ', e4, h4⟩ := lcL_ind I r (i + 1) (acc ++ [y]) ρ3 (by simpa using h2) fun j d' acc ρ e hI => by
      have := st (j + 1) d' acc ρ (by simpa using e) (by rw [show i + (j + 1) = i + 1 + j by omega]; exact hI)
      rw [show i + (j + 1) + 1 = i + 1 + j + 1 by omega] at this
      exact this
    refine ⟨acc', ρ', ?_, by rw [List.length_cons, show i + (r.length + 1) = i + 1 + r.length by omega]; exact h4⟩
    simp only [lcL, hf, if_true, e1, mYes, e2, e3, e4]
theorem mLc_end {g : MG} {e : M} {it : MI} {vs : List Nat} {ρ ρ1 ρ2 : Env} {ds acc : List D} (hit : it ρ = some (.ok ds ρ1)) (hl : ds.length ≤ 1000000) (hv : frees ρ1 vs = true) (h : lcL g mYes e vs ds [] ρ1 = some (.ok acc ρ2)) (hv2 : frees ρ2 vs = true) :
    mLc it g mYes e vs ρ = some (.ok (.own (.list acc)) (restE ρ1 ρ2 vs)) := by
  have hl' : ds.length ≤ big := hl
  unfold mLc
  simp only [hit, Res.bind, hl', hv, and_self, if_true, h, lcEnd, hv2]
theorem ix_any {ds : List D} {i : Int} (h : 0 ≤ i ∧ i < ds.length) : ∃ d, d ∈ ds ∧ fIx (.list ds) (.int i) = some (.val d) := by
  have hi : i.toNat < ds.length := by omega
  refine ⟨ds[i.toNat], List.getElem_mem hi, ?_⟩
  have h1 : ixN ds.length i = some i.toNat := by
    unfold ixN
    rw [if_pos h.1, if_pos h.2]
  simp only [fIx, itemsD, atI, h1, Option.bind_some, List.getElem?_eq_getElem hi]
theorem lt_ints (i j : Int) : fLt (.int i) (.int j) = some (.val (.bool (decide (i < j)))) := rfl
theorem tup_of {m : MA} {ρ ρ1 : Env} {l : List AV} {ds : List D} (h : m ρ = some (.ok l ρ1)) (hv : valsA l = some ds) (hl : ds.length ≤ 1000000) : mTup m ρ = some (.ok (.val (.tuple ds)) ρ1) := by
  have hl' : ds.length ≤ big := hl
  simp only [mTup, h, Res.bind, hv, hl', if_true]
theorem lst_of {m : MA} {ρ ρ1 : Env} {l : List AV} {ds : List D} (h : m ρ = some (.ok l ρ1)) (hv : valsA l = some ds) (hl : ds.length ≤ 1000000) : mLst m ρ = some (.ok (.own (.list ds)) ρ1) := by
  have hl' : ds.length ≤ big := hl
  simp only [mLst, h, Res.bind, hv, hl', if_true]
def vf : Slot → Bool
  | .un => true
  | .val _ => true
  | _ => false
theorem vfree_at {ρ : Env} {i : Nat} {s : Slot} (h : ρ[i]? = some s) (hv : vf s = true) : vfree ρ i = true := by
  unfold vfree
  rw [h]
  cases s with
  | un => rfl
  | val d => rfl
  | own d b => cases hv
theorem frees1 {ρ : Env} {i : Nat} {s : Slot} (h : ρ[i]? = some s) (hv : vf s = true) : frees ρ [i] = true := by simp [frees, vfree_at h hv]
theorem consR_of {i : Nat} {r : MA} {ρ ρ3 : Env} {l : List AV} {d : D} {b : Bool} (h : ρ[i]? = some (.own d b)) (h2 : r ρ = some (.ok l ρ3)) : mConsR i r ρ = some (.ok (.ref i :: l) ρ3) := by
  simp only [mConsR, h, h2, Res.bind]
theorem call_lent {f : Env → Option Out} {a : MA} {ρ ρ1 outs : Env} {ds : List D} {r : RV} {i : Nat} {d d' : D} {b b' : Bool} (h : a ρ = some (.ok (.ref i :: ds.map AV.val) ρ1)) (hi : ρ1[i]? = some (.own d b)) (hf : f (.own d true :: ds.map Slot.val) = some (.rt r (.own d' b' :: outs))) (ho : outs.length = ds.length) (hr : ∀ i, r ≠ .slot i) :
    mCall f a ρ = some (.ok r (ρ1.set i (.own d' b))) := by
  have h1 : insOf ρ1 (.ref i :: ds.map AV.val) = some (.own d true :: ds.map Slot.val) := by simp only [insOf, hi, ins_vals, Option.map_some]
  have h2 : (refsOf (.ref i :: ds.map AV.val)).Nodup := by simp [refsOf, refs_vals]
  have h3 : back ρ1 (.ref i :: ds.map AV.val) (.own d' b' :: outs) = some (ρ1.set i (.own d' b)) := by simp only [back, hi, back_vals ds outs ho, Option.map_some]
  simp only [mCall, h, Res.bind, h1, h2, if_true, hf]
  cases r with
  | slot j => exact absurd rfl (hr j)
  | val x => simp only [h3, Option.map_some]
  | own x => simp only [h3, Option.map_some]
end Pi
set_option maxRecDepth 100000
set_option maxHeartbeats 1000000
/-! zip of three tuples; extend -/
namespace Pi
open PySem PySem.Spec PyProof.Rows L2

/-- three tuples walked at once: every item is a triple of its own -/
def Itz3 (K : PySem.W.Frag) (a b c : Addr) : It :=
  ⟨fun i H => ∃ (xs ys zs : List V) (x y z : V), SqT K H a xs ∧ SqT K H b ys ∧ SqT K H c zs ∧ xs[i]? = some x ∧ ys[i]? = some y ∧ zs[i]? = some z,
    fun i H v H' => ∃ T x y z, v = .ref T ∧ H T = none ∧ H' = upd H T (.tup [x, y, z]) ∧ (∀ l, SqT K H a l → l[i]? = some x) ∧ (∀ l, SqT K H b l → l[i]? = some y) ∧ ∀ l, SqT K H c l → l[i]? = some z,
    fun i H => ∃ xs ys zs : List V, SqT K H a xs ∧ SqT K H b ys ∧ SqT K H c zs ∧ i = min (min xs.length ys.length) zs.length⟩
theorem add_cases3 {N c : Addr} (h : c ∈ [N + 5, N + 3, N + 4, N, N + 1, N + 2]) : c = N + 5 ∨ c = N + 3 ∨ c = N + 4 ∨ c = N ∨ c = N + 1 ∨ c = N + 2 := by simpa using h
theorem turn_zip3 {P : Program} {w : World} {K : PySem.W.Frag} {elts : List Expr} {kk : Nat} {tpos : Pos} {a b c N : Addr} (ha : a < N) (hb : b < N) (hc' : c < N) :
    Turn P w K (.Tuple elts kk tpos) (Itz3 K a b c) [N + 5, N + 3, N + 4, N, N + 1, N + 2] (N + 5)
      (fun i h => IsZip h (N + 5) (N + 3) (N + 4) .none ∧ IsTupOf3 h (N + 3) (.ref N) (.ref (N + 1)) (.ref (N + 2)) ∧ (∃ x y z, IsTupOf3 h (N + 4) x y z) ∧ h.IsTupleIter N a i ∧ h.IsTupleIter (N + 1) b i ∧ h.IsTupleIter (N + 2) c i) where
  mem := by simp
  obj := fun i h st q hq => by
    obtain ⟨hz, hTI, ⟨x, y, z, hTO⟩, ⟨o1, e1, _, d1⟩, ⟨o2, e2, _, d2⟩, ⟨o3, e3, _, d3⟩⟩ := st
    rcases add_cases3 hq with r | r | r | r | r | r
    · rw [r]; exact ⟨_, hz, fun v q => nomatch q⟩
    · rw [r]; exact ⟨_, hTI, fun v q => nomatch q⟩
    · rw [r]; exact ⟨_, hTO, fun v q => nomatch q⟩
    · rw [r]; exact ⟨o1, e1, fun v q => by rw [d1] at q; cases q⟩
    · rw [r]; exact ⟨o2, e2, fun v q => by rw [d2] at q; cases q⟩
    · rw [r]; exact ⟨o3, e3, fun v q => by rw [d3] at q; cases q⟩
  keep := fun i h h' st k => by
    obtain ⟨hz, hTI, ⟨x, y, z, hTO⟩, h1, h2, h3⟩ := st
    exact ⟨k (N + 5) (by simp) _ hz, k (N + 3) (by simp) _ hTI, ⟨x, y, z, k (N + 4) (by simp) _ hTO⟩, h1.at fun o q => k N (by simp) o q, h2.at fun o q => k (N + 1) (by simp) o q, h3.at fun o q => k (N + 2) (by simp) o q⟩
  item := by
    intro X hP hw hK hc i pins s σ H E I hf st hg
    subst hP hw hK
    obtain ⟨hz, hTI, hTO, h1, h2, h3⟩ := st
    obtain ⟨xs, ys, zs, x, y, z, hqx, hqy, hqz, hx, hy, hzz⟩ := hg
    obtain ⟨its, rv, p, _⟩ := I.tuple hqx
    obtain ⟨its2, rv2, p2, _⟩ := I.tuple hqy
    obtain ⟨its3, rv3, p3, _⟩ := I.tuple hqz
    obtain ⟨u, hu, ru⟩ := rv.get hx
    obtain ⟨u2, hu2, ru2⟩ := rv2.get hy
    obtain ⟨u3, hu3, ru3⟩ := rv3.get hzz
    have hh : X.A.in1.handled = none := I.ok.hd hc
    have sep := zip_sep3 (N := N) (fp1 := [a]) (fp2 := [b]) (fp3 := [c]) (fun q hq => by rw [List.mem_singleton.mp hq]; exact ha) (fun q hq => by rw [List.mem_singleton.mp hq]; exact hb) (fun q hq => by rw [List.mem_singleton.mp hq]; exact hc')
    have Gz := GoesN.zip3 (prog := X.prog) (w := X.w) (A := X.A) (elts := elts) (x1 := kk) (pos := tpos) sep
      (Draws.tuple hh N a (Nat.ne_of_lt ha) its.toArray) (Draws.tuple hh (N + 1) b (Nat.ne_of_lt (Nat.lt_succ_of_lt hb)) its2.toArray) (Draws.tuple hh (N + 2) c (Nat.ne_of_lt (Nat.lt_succ_of_lt (Nat.lt_succ_of_lt hc'))) its3.toArray)
    have l1 : i < its.length := (List.getElem?_eq_some_iff.mp hu).1
    have l2 : i < its2.length := (List.getElem?_eq_some_iff.mp hu2).1
    have l3 : i < its3.length := (List.getElem?_eq_some_iff.mp hu3).1
    refine Gz.goes i s (fun v s2 => ∃ x H', Inv X pins σ H' s2 ∧ RelV x v ∧ (Itz3 X.K a b c).yld i H x H' ∧ _ ∧ ∀ b ∈ [N + 5, N + 3, N + 4, N, N + 1, N + 2], H' b = none) E (by simp only [List.size_toArray]; omega) ⟨hz, hTI, hTO, ⟨h1, p⟩, ⟨h2, p2⟩, ⟨h3, p3⟩⟩ fun v h' tk hY st' hk htk => ?_
    obtain ⟨T, w1, w2, w3, rfl, hT, e1, e2, e3, hTt⟩ := hY
    have e1 : its.toArray[i]? = some w1 := e1
    have e2 : its2.toArray[i]? = some w2 := e2
    have e3 : its3.toArray[i]? = some w3 := e3
    rw [List.getElem?_toArray, hu] at e1
    rw [List.getElem?_toArray, hu2] at e2
    rw [List.getElem?_toArray, hu3] at e3
    cases e1; cases e2; cases e3
    obtain ⟨hz', hTI', hTO', ⟨h1', _⟩, ⟨h2', _⟩, ⟨h3', _⟩⟩ := st'
    obtain ⟨oT, eT, cT, nT, dT⟩ := hTt
    have new : ObjOk X.prog X.w (upd H T (.tup [x, y, z])) h' T (.tup [x, y, z]) :=
      ⟨by show 3 ≤ sizeLine; decide, [u, u2, u3], .cons ru (.cons ru2 (.cons ru3 .nil)), ⟨oT, eT, cT, nT, dT⟩⟩
    have sub : ∀ q, q ∈ [N + 5, N + 4, N, N + 1, N + 2] → q ∈ [N + 5, N + 3, N + 4, N, N + 1, N + 2] := fun q hq => by
      simp only [List.mem_cons, List.not_mem_nil, or_false] at hq ⊢
      rcases hq with h | h | h | h | h <;> simp [h]
    have I1 : Inv X pins σ (upd H T (.tup [x, y, z])) { s with heap := h', toks := tk } :=
      I.turnedNew (ch := [N + 5, N + 4, N, N + 1, N + 2]) (fun q o hq e => hk q o hq e) (fun q hq => hf q (sub q hq)) hT new
    refine ⟨.ref T, _, I1, rfl, ⟨T, x, y, z, rfl, I.hok.fresh hT, rfl, fun l hl => by rw [I.tuple_inj hl hqx]; exact hx, fun l hl => by rw [I.tuple_inj hl hqy]; exact hy, fun l hl => by rw [I.tuple_inj hl hqz]; exact hzz⟩,
      ⟨hz', hTI', hTO', h1', h2', h3'⟩, fun q hq => ?_⟩
    have hlt : q < s.heap.objs.size := by
      obtain ⟨x0, y0, z0, hTO⟩ := hTO
      rcases add_cases3 hq with r | r | r | r | r | r
      · rw [r]; exact Heap.lt_size hz
      · rw [r]; exact Heap.lt_size hTI
      · rw [r]; exact Heap.lt_size hTO
      · rw [r]; obtain ⟨_, e1, _⟩ := h1; exact Heap.lt_size e1
      · rw [r]; obtain ⟨_, e2, _⟩ := h2; exact Heap.lt_size e2
      · rw [r]; obtain ⟨_, e2, _⟩ := h3; exact Heap.lt_size e2
    rw [upd_ne (Nat.ne_of_lt (Nat.lt_of_lt_of_le hlt hT))]
    exact (hf q hq).1
  done := by
    intro X hP hw hK hc i pins s σ H E I hf st hg
    subst hP hw hK
    obtain ⟨hz, hTI, hTO, h1, h2, h3⟩ := st
    obtain ⟨xs, ys, zs, hqx, hqy, hqz, hi⟩ := hg
    obtain ⟨its, rv, p, _⟩ := I.tuple hqx
    obtain ⟨its2, rv2, p2, _⟩ := I.tuple hqy
    obtain ⟨its3, rv3, p3, _⟩ := I.tuple hqz
    have hh : X.A.in1.handled = none := I.ok.hd hc
    have sep := zip_sep3 (N := N) (fp1 := [a]) (fp2 := [b]) (fp3 := [c]) (fun q hq => by rw [List.mem_singleton.mp hq]; exact ha) (fun q hq => by rw [List.mem_singleton.mp hq]; exact hb) (fun q hq => by rw [List.mem_singleton.mp hq]; exact hc')
    have Gz := GoesN.zip3 (prog := X.prog) (w := X.w) (A := X.A) (elts := elts) (x1 := kk) (pos := tpos) sep
      (Draws.tuple hh N a (Nat.ne_of_lt ha) its.toArray) (Draws.tuple hh (N + 1) b (Nat.ne_of_lt (Nat.lt_succ_of_lt hb)) its2.toArray) (Draws.tuple hh (N + 2) c (Nat.ne_of_lt (Nat.lt_succ_of_lt (Nat.lt_succ_of_lt hc'))) its3.toArray)
    have l1 := rv.length
    have l2 := rv2.length
    have l3 := rv3.length
    have hn : i = min (min its.toArray.size its2.toArray.size) its3.toArray.size := by simp only [List.size_toArray]; omega
    subst hn
    have sub : ∀ q, q ∈ [N + 5, N + 4, N, N + 1, N + 2] → q ∈ [N + 5, N + 3, N + 4, N, N + 1, N + 2] := fun q hq => by
      simp only [List.mem_cons, List.not_mem_nil, or_false] at hq ⊢
      rcases hq with h | h | h | h | h <;> simp [h]
    exact Gz.stops s (fun s1 => Inv X pins σ H s1) E ⟨hz, hTI, hTO, ⟨h1, p⟩, ⟨h2, p2⟩, ⟨h3, p3⟩⟩ fun h' tk hk htk => I.turnedL (ch := [N + 5, N + 4, N, N + 1, N + 2]) (fun q o hq e => hk q o hq e) (fun q hq => hf q (sub q hq))
  self := fun A i s Q E st h => wpAny_pyIter_zip st.1 h

def iZipB (K : PySem.W.Frag) (ta : TA) : TI := fun σ H R => ta σ H fun vs H1 => ∃ a b c xs ys zs, vs = [.ref a, .ref b, .ref c] ∧ SqT K H1 a xs ∧ SqT K H1 b ys ∧ SqT K H1 c zs ∧ R (Itz3 K a b c) H1
theorem pi_zip3 {X : Cx} {e e2 e3 : Expr} {ta : TA} {p pos tpos : Pos} {elts : List Expr} {kk : Nat} (hg : Gl X "zip") (hm : X.mg "zip" = none) (ha : PA X [e, e2, e3] ta)
    (hs : starEach [e, e2, e3] X.env = (false, eval e X.env) :: starEach [e2, e3] X.env) (hpl : (backTo pos (starEach [e2, e3] X.env)).any (·.1) = false) :
    PI X (.Tuple elts kk tpos) (.Call (.Name "zip" p) [e, e2, e3] [] pos) (iZipB X.K ta) := by
  refine ⟨fun pins s σ H R I h => ?_⟩
  refine Call_ (ld_blt I hg hm PyProof.Rows.boot_zip (PyProof.Rows.callWith_type1 (thn (ha.run pos pins s σ H _ I h) fun us s1 ⟨vs, H1, I1, r1, q1⟩ => ?_) hs hpl))
  obtain ⟨a, b, c, xs, ys, zs, ex, hqx, hqy, hqz, q⟩ := q1
  subst ex
  cases r1 with
  | cons r rr =>
    cases rr with
    | cons r' rr =>
      cases rr with
      | cons r'' rr =>
        cases rr
        cases r
        cases r'
        cases r''
        have fresh6 : ∀ c, c ∈ [s1.heap.objs.size + 5, s1.heap.objs.size + 3, s1.heap.objs.size + 4, s1.heap.objs.size, s1.heap.objs.size + 1, s1.heap.objs.size + 2] → FpOk X pins H1 c := fun c hcm => by
          have hle : s1.heap.objs.size ≤ c := by
            rcases add_cases3 hcm with z | z | z | z | z | z <;> rw [z] <;> first | exact Nat.le_refl _ | exact Nat.le_add_right _ _
          exact I1.fpOk hle (I1.hok.fresh hle)
        obtain ⟨its, rv, p1, _⟩ := I1.tuple hqx
        obtain ⟨its2, rv2, p2, _⟩ := I1.tuple hqy
        obtain ⟨its3, rv3, p3, _⟩ := I1.tuple hqz
        obtain ⟨o1, ho1, _⟩ := id p1
        obtain ⟨o2, ho2, _⟩ := id p2
        obtain ⟨o3, ho3, _⟩ := id p3
        refine zip_begins3 (begins_tuple a its.toArray) (begins_tuple b its2.toArray) (begins_tuple c its3.toArray) p1 p2 p3 fun h' hz hTI hTO e1 e2 e3 hsz hk => wpAny_pyIter_zip hz ?_
        have I2 : Inv X pins σ H1 { s1 with heap := h' } := I1.kept (t' := s1.toks) hk
        exact ⟨s1.heap.objs.size + 5, [s1.heap.objs.size + 5, s1.heap.objs.size + 3, s1.heap.objs.size + 4, s1.heap.objs.size, s1.heap.objs.size + 1, s1.heap.objs.size + 2], _, _, H1, rfl, I2, turn_zip3 (Heap.lt_size ho1) (Heap.lt_size ho2) (Heap.lt_size ho3),
          ⟨hz, hTI, ⟨_, _, _, hTO⟩, ⟨_, e1, rfl, rfl⟩, ⟨_, e2, rfl, rfl⟩, ⟨_, e3, rfl, rfl⟩⟩, fresh6, q⟩

/-- the items of three in triples -/
def zip3D (xs ys zs : List D) : List D := (xs.zip (ys.zip zs)).map fun p => .tuple [p.1, p.2.1, p.2.2]
theorem zip3D_len (xs ys zs : List D) : (zip3D xs ys zs).length = min (min xs.length ys.length) zs.length := by simp [zip3D, Nat.min_assoc]
theorem zip3D_get {xs ys zs : List D} {i : Nat} {d : D} (h : (zip3D xs ys zs)[i]? = some d) : ∃ x y z, xs[i]? = some x ∧ ys[i]? = some y ∧ zs[i]? = some z ∧ d = .tuple [x, y, z] := by
  unfold zip3D at h
  rw [List.getElem?_map] at h
  cases e : (xs.zip (ys.zip zs))[i]? with
  | none => rw [e] at h; cases h
  | some p =>
    rw [e] at h
    cases h
    obtain ⟨a, b, c⟩ := p
    rw [List.getElem?_zip_eq_some, List.getElem?_zip_eq_some] at e
    exact ⟨a, b, c, e.1, e.2.1, e.2.2, rfl⟩
def iZip3 (a : MA) : MI := fun ρ => Res.bind (a ρ) fun l ρ1 => match l with
  | [.val (.tuple xs), .val (.tuple ys), .val (.tuple zs)] => if xs.length ≤ big ∧ ys.length ≤ big ∧ zs.length ≤ big then some (.ok (zip3D xs ys zs) ρ1) else none
  | _ => none
theorem itok_zip3 {K : PySem.W.Frag} {F : Hp} {a b c : Addr} {xs ys zs : List V} {ds es fs : List D} (h : SqT K F a xs) (h' : SqT K F b ys) (h'' : SqT K F c zs) (r : RpAll K F xs ds) (r' : RpAll K F ys es) (r'' : RpAll K F zs fs) : ItOk K F (Itz3 K a b c) (zip3D ds es fs) := by
  have hn : (zip3D ds es fs).length = min (min xs.length ys.length) zs.length := by rw [zip3D_len, r.length, r'.length, r''.length]
  refine ⟨fun H => SqT K H a xs ∧ SqT K H b ys ∧ SqT K H c zs, fun i H v H' => ∃ T x y z, v = .ref T ∧ H T = none ∧ H' = upd H T (.tup [x, y, z]) ∧ xs[i]? = some x ∧ ys[i]? = some y ∧ zs[i]? = some z,
    ⟨fun i H hi g => ?_, fun H g => ⟨xs, ys, zs, g.1, g.2.1, g.2.2, hn⟩, fun i H v H' hi g y => ?_⟩, fun H s => ⟨(Le.of s).t h, (Le.of s).t h', (Le.of s).t h''⟩, fun i H v H' d hd _ hy B ρ F1 Fr σ s1 r1 => ?_⟩
  · have h1 : i < xs.length := by omega
    have h2 : i < ys.length := by omega
    have h3 : i < zs.length := by omega
    exact ⟨xs, ys, zs, xs[i], ys[i], zs[i], g.1, g.2.1, g.2.2, List.getElem?_eq_getElem h1, List.getElem?_eq_getElem h2, List.getElem?_eq_getElem h3⟩
  · obtain ⟨T, x, y, z, e1, e2, e3, f1, f2, f3⟩ := y
    exact ⟨T, x, y, z, e1, e2, e3, f1 xs g.1, f2 ys g.2.1, f3 zs g.2.2⟩
  · obtain ⟨T, x, y, z, rfl, hT, rfl, hx, hy, hz⟩ := hy
    obtain ⟨p, q, t, e1, e2, e3, rfl⟩ := zip3D_get hd
    obtain ⟨v1, hv1, rv1⟩ := r.get e1
    obtain ⟨v2, hv2, rv2⟩ := r'.get e2
    obtain ⟨v3, hv3, rv3⟩ := r''.get e3
    rw [hx] at hv1; cases hv1
    rw [hy] at hv2; cases hv2
    rw [hz] at hv3; cases hv3
    obtain ⟨r2, s2⟩ := r1.new (o := .tup [x, y, z]) hT
    have sl := Le.of (s1.trans s2)
    exact ⟨_, s2, r2, .tup (.inl (.inl upd_same)) (.cons (rv1.le sl) (.cons (rv2.le sl) (.cons (rv3.le sl) .nil)))⟩
section
variable {Z : Zx} {pos p tpos : Pos} {a b c : Expr} {mr : MA} {elts : List Expr} {kk : Nat}
theorem i_zip3 (hg : Gl Z.X "zip") (hm : Z.X.mg "zip" = none) (ha : SA Z [a, b, c] mr) (hs : starEach [a, b, c] Z.X.env = (false, eval a Z.X.env) :: starEach [b, c] Z.X.env := by kernel_rfl) (hpl : (backTo pos (starEach [b, c] Z.X.env)).any (·.1) = false := by kernel_rfl) :
    SI Z (.Tuple elts kk tpos) (.Call (.Name "zip" p) [a, b, c] [] pos) (iZip3 mr) := by
  refine .mk ?_
  intro ρ σ F Fr H R rr h
  refine Ci.of (pi_zip3 hg hm pa_C hs hpl) (ha ρ σ F Fr H _ rr ?_)
  simp only [iZip3] at h
  cases e1 : mr ρ with
  | none => rw [e1] at h; exact h
  | some o => cases o with
    | ex c ρ1 => rw [e1] at h; exact h
    | ok l ρ1 =>
      rw [e1] at h
      simp only [Res.bind] at h
      intro F1 H1 vs s1 r1 q1
      split at h
      · rename_i xs ys zs
        split at h
        · cases q1 with
          | cons h1 t =>
            cases t with
            | cons h2 t =>
              cases t with
              | cons h3 t =>
                cases t
                cases h1 with
                | tup k1 k2 =>
                  cases h2 with
                  | tup k3 k4 =>
                    cases h3 with
                    | tup k5 k6 => exact ⟨_, _, _, _, _, _, rfl, (Le.of r1.fz).t k1, (Le.of r1.fz).t k3, (Le.of r1.fz).t k5, h F1 H1 _ s1 r1 (itok_zip3 k1 k3 k5 k2 k4 k6)⟩
        · exact h.elim
      · exact h.elim
end

/-! ### extend, by a new list -/
def mExt (i : Nat) (m : M) : M := fun ρ => match ρ[i]? with
  | some (.own (.list _) _) => Res.bind (m ρ) fun x ρ1 => match x with
    | .own (.list es) => match ρ1[i]? with
      | some (.own (.list ds) b) => if ds.length + es.length ≤ big then some (.ok (.val .none) (ρ1.set i (.own (.list (ds ++ es)) b))) else none
      | _ => none
    | _ => none
  | _ => none
section
variable {Z : Zx} {pos p ap : Pos} {e k : Expr} {m mk : M} {x : Str}
theorem s_ext (i : Nat) (ha : SE Z e m) (hN : Z.X.N[i]? = some x := by kernel_rfl) (hv : Vis Z.X.env.scope x := by exact vis_k) (hd : (x == ("__debug__" : Str)) = false := by kernel_rfl) (hcd : (x == ("__classdict__" : Str)) = false := by kernel_rfl)
    (h1 : attributeBase (.Name x p) "extend" Z.X.env (eval (.Name x p) Z.X.env) = eval (.Name x p) Z.X.env := by kernel_rfl)
    (h2 : (((((backTo pos (starEach [e] Z.X.env)).all fun x => !x.fst) && (backToKw pos (keywordEach [] Z.X.env)).all fun x => x.fst.isSome) && decide (([e] : List Expr).length + ([] : List Keyword).length + (if ([] : List Keyword).isEmpty = true then 0 else 1) < 30)) = true) := by kernel_rfl)
    (h3 : (ap.endLine == pos.line) = true := by kernel_rfl) (h4 : starEach [e] Z.X.env = (false, eval e Z.X.env) :: starEach [] Z.X.env := by kernel_rfl) :
    SE Z (.Call (.Attribute (.Name x p) "extend" ap) [e] [] pos) (mExt i m) := by
  refine .mk ?_
  intro ρ σ F Fr H Q rr h
  refine Ce.of (pe_bm PySem.F.plainAttrs_list PySem.F.slot_list_extend PySem.F.type_list_extend mt_extend (pe_var hN hv hd hcd) (pa_cons pe_C pa_nil h4) h1 h2 h3 h4 rfl) ?_
  simp only [mExt] at h
  split at h
  · rename_i ds b hi
    obtain ⟨a, g1, g2, g3, ⟨xs, g4, g5⟩⟩ := rr.own i _ b hi
    refine ⟨.ref a, g1, .inl ⟨rfl, xs, .inl (.inl g4)⟩, ha ρ σ F Fr H _ rr ?_⟩
    cases e1 : m ρ with
    | none => rw [e1] at h; exact h
    | some o => cases o with
      | ex c ρ1 => rw [e1] at h; exact h
      | ok y ρ1 =>
        rw [e1] at h
        simp only [Res.bind] at h
        intro F1 H1 v s1 r1 q1
        split at h
        · rename_i es
          split at h
          · rename_i ds' b' hi'
            split at h
            · rename_i hl
              obtain ⟨a', k1, k2, k3, ⟨ys, k4, k5⟩⟩ := r1.own i _ b' hi'
              rw [g1] at k1; cases k1
              obtain ⟨q, rfl, n1, n2, ⟨zs, n4, n5⟩, n6⟩ := q1
              refine ⟨a, q, ys, zs, rfl, rfl, k4, n4, by rw [k5.length, n5.length]; exact Nat.le_trans hl big_line, ?_⟩
              exact h F1 _ .non s1 (r1.change hi' g1 ⟨ys ++ zs, upd_same, k5.append n5⟩) .non
            · exact h.elim
          · exact h.elim
        · exact h.elim
  · exact h.elim
end
/-- a def of which nothing is said yet -/
theorem fnA_none {P : Program} {w : World} {K : PySem.W.Frag} {mg : Str → Option Value} {base : Heap} {cls : Nat → Value} {k : Nat} {x : Str} {st : Stmt} {ps : List Str}
    (D : DefIn K mg x st) (hb : ∀ (kV doc pm cdv ct : Value) (an : Option Addr) (us : List Value), us.length = ps.length → bindArgs (PySem.W.fnOf x x (defArgs st) (defBody st) (defScope st) .none kV doc pm an cdv ct) ⟨us, []⟩ = pure (ps.zip us)) :
    FnA P w K mg base cls k x ps.length (fun _ => none) := by
  obtain ⟨f, oc, od, kV, doc, pm, an, cdv, ct, osl, h1, h2, h3, h4⟩ := D
  refine ⟨f, PySem.W.fnOf x x (defArgs st) (defBody st) (defScope st) .none kV doc pm an cdv ct, ps, h1, h4, Binds.all fun us hl => hb kV doc pm cdv ct an us hl, rfl, fun vs H Q E h => h.1, fun A outer s H args us vs Q E hr hg e hbd hv h => ?_⟩
  obtain ⟨_, ins, F, Fr, B, _, _, z⟩ := h
  exact z.elim
end Pi
set_option maxRecDepth 100000
set_option maxHeartbeats 1000000
/-! type(x) == T as a value and as a test -/
namespace Pi
open PySem PySem.Spec PyProof.Rows L2
def rETy : R2 := fun x y H Q => ∃ a b, x = .ty a ∧ y = .ty b ∧ (∀ s' : Shared, s'.TypeIs (.type a) "type") ∧ (∀ s' : Shared, s'.TypeIs (.type b) "type") ∧ Q (.bl (decide (a = b))) H
theorem op_eqTy {X : Cx} : OpR X (compareOp .Eq) rETy := by
  intro pins s σ H x y v u Q I rx ry h
  obtain ⟨a, b, rfl, rfl, ha, hb, q⟩ := h
  cases rx
  cases ry
  by_cases e : a = b
  · subst e
    rw [decide_eq_true rfl] at q
    exact TypeEq.eq_type_same ha ⟨.bl _, H, I, rfl, q⟩
  · rw [decide_eq_false e] at q
    exact TypeEq.eq_type_other ha hb (beq_eq_false_iff_ne.mpr fun z => e (Value.type.inj z)) ⟨.bl _, H, I, rfl, q⟩
section
variable {Z : Zx} {a : Expr} {ma : M} {pos p q p2 : Pos}
def fTyEq (T : String) (d : D) : Option RV := some (.val (.bool (decide (tyN d = T))))
theorem tyEq_run {T : String} (z : Z.Ok) (hT : ∀ s' : Shared, s'.TypeIs (.type T) "type") (hgt : Gl Z.X "type") (hmt : Z.X.mg "type" = none) (hg : Gl Z.X T) (hm : Z.X.mg T = none) (hv : bootBuiltins T = some (.type T)) (ha : SE Z a ma)
    (hn : (T : Str) ≠ "__name__") (hd : ((T : Str) == ("__debug__" : Str)) = false) (he : starEach [a] Z.X.env = [(false, eval a Z.X.env)]) {ρ : Env} {σ : L2.St} {F Fr H : Hp} {Q : VK} (rr : Rel Z.X.K Z.B ρ F Fr H σ) (h : PostE Z σ F Fr Q (mUn (fTyEq T) ma ρ)) :
    tOp rETy (tCB (rTypG Z.X.K) (tCons (Ce Z.X a) tNil)) (tC (.ty T)) σ H Q := by
  refine un_run (r := fun x H Q => rTypG Z.X.K [x] H fun x H1 => tC (.ty T) σ H1 fun y H2 => rETy x y H2 Q) ha (fun ρ σ F Fr H x d z Q r hx e k => ?_) rr h
  cases e
  exact ⟨x, d, rfl, hx.rp r.fz, tyN d, T, rfl, rfl, ty_meta d, hT, k F H _ (.refl F) r (.bl _)⟩
theorem s_tyEq (T : String) (z : Z.Ok) (hT : ∀ s' : Shared, s'.TypeIs (.type T) "type") (hgt : Gl Z.X "type") (hmt : Z.X.mg "type" = none) (hg : Gl Z.X T) (hm : Z.X.mg T = none) (ha : SE Z a ma) (hv : bootBuiltins T = some (.type T) := by decide +kernel)
    (hn : (T : Str) ≠ "__name__" := by decide) (hd : ((T : Str) == ("__debug__" : Str)) = false := by decide) (he : starEach [a] Z.X.env = [(false, eval a Z.X.env)] := by kernel_rfl) :
    SE Z (.Compare (.Call (.Name "type" p) [a] [] q) [.Eq] [.Name T p2] pos) (mUn (fTyEq T) ma) := .mk fun ρ σ F Fr H Q rr h =>
  Ce.of (pe_cmpR op_eqTy (pe_callTy call_typeG hgt hmt (by decide +kernel) (pa_cons pe_C pa_nil he) (he := he) (hpl := rfl)) (pe_bltn (v := V.ty T) hg hm hv rfl hn hd) (nomark _)) (tyEq_run z hT hgt hmt hg hm hv ha hn hd he rr h)
theorem t_tyEq (T : String) (z : Z.Ok) (hT : ∀ s' : Shared, s'.TypeIs (.type T) "type") (hgt : Gl Z.X "type") (hmt : Z.X.mg "type" = none) (hg : Gl Z.X T) (hm : Z.X.mg T = none) (ha : SE Z a ma) (hv : bootBuiltins T = some (.type T) := by decide +kernel)
    (hn : (T : Str) ≠ "__name__" := by decide) (hd : ((T : Str) == ("__debug__" : Str)) = false := by decide) (he : starEach [a] Z.X.env = [(false, eval a Z.X.env)] := by kernel_rfl) :
    ST Z (.Compare (.Call (.Name "type" p) [a] [] q) [.Eq] [.Name T p2] pos) (mTru (mUn (fTyEq T) ma)) := .mk fun ρ σ F Fr H Q rr h =>
  Ct.of (pt_cmpR op_eqTy (pe_callTy call_typeG hgt hmt (by decide +kernel) (pa_cons pe_C pa_nil he) (he := he) (hpl := rfl)) (pe_bltn (v := V.ty T) hg hm hv rfl hn hd) (nomark _))
    (tyEq_run (Q := fun x H' => ∃ k, x = .bl k ∧ Q k H') z hT hgt hmt hg hm hv ha hn hd he rr (mUn_bool (g := fun d => decide (tyN d = T)) (fun d => rfl) h))
end
end Pi
set_option maxRecDepth 100000
set_option maxHeartbeats 1000000
/-! the pure side: rows told by a function; small data -/
namespace Pi
open PySem PySem.Spec L2

/-! ### rows told by a function -/
def tab (n : Nat) (f : Nat → D) : List D := (List.range n).map f
theorem tab_len (n : Nat) (f : Nat → D) : (tab n f).length = n := by simp [tab]
theorem tab_get {n : Nat} {f : Nat → D} {i : Nat} (h : i < n) : (tab n f)[i]? = some (f i) := by
  unfold tab
  rw [List.getElem?_map, List.getElem?_range h]; rfl
theorem get_tab {n : Nat} {f : Nat → D} {i : Nat} {d : D} (h : (tab n f)[i]? = some d) : i < n ∧ d = f i := by
  have hi : i < (tab n f).length := (List.getElem?_eq_some_iff.mp h).1
  rw [tab_len] at hi
  rw [tab_get hi] at h
  exact ⟨hi, (Option.some.inj h).symm⟩
theorem mem_tab {n : Nat} {f : Nat → D} {d : D} (h : d ∈ tab n f) : ∃ i, i < n ∧ d = f i := by
  obtain ⟨i, hi⟩ := List.getElem?_of_mem h
  exact ⟨i, get_tab hi⟩
theorem tab_mem {n : Nat} {f : Nat → D} {i : Nat} (h : i < n) : f i ∈ tab n f := List.mem_of_getElem? (tab_get h)
theorem tab_map {n : Nat} {f : Nat → D} (g : D → D) : (tab n f).map g = tab n fun i => g (f i) := by simp [tab, Function.comp_def]
theorem tab_ext {n : Nat} {l : List D} {f : Nat → D} (hl : l.length = n) (h : ∀ i, i < n → l[i]? = some (f i)) : l = tab n f := by
  apply List.ext_getElem?
  intro i
  by_cases hi : i < n
  · rw [h i hi, tab_get hi]
  · rw [List.getElem?_eq_none (by omega), List.getElem?_eq_none (by rw [tab_len]; omega)]
theorem tab_congr {n : Nat} {f g : Nat → D} (h : ∀ i, i < n → f i = g i) : tab n f = tab n g := tab_ext (tab_len _ _) fun i hi => by rw [tab_get hi, h i hi]
theorem tab_app (n m : Nat) (f g : Nat → D) : tab n f ++ tab m g = tab (n + m) fun i => if i < n then f i else g (i - n) := tab_ext (by simp [tab_len]) fun i hi => by
  by_cases h : i < n
  · rw [List.getElem?_append_left (by rw [tab_len]; exact h), tab_get h, if_pos h]
  · rw [List.getElem?_append_right (by rw [tab_len]; omega), tab_len, tab_get (by omega), if_neg h]
theorem tab_rep (n : Nat) (x : D) : List.replicate n x = tab n fun _ => x := tab_ext (by simp) fun i hi => by rw [List.getElem?_replicate]; simp [hi]
theorem tab_succ (n : Nat) (f : Nat → D) : tab n f ++ [f n] = tab (n + 1) f := by simp [tab, List.range_succ]
theorem tab_zero (f : Nat → D) : tab 0 f = [] := rfl
theorem tab_one (f : Nat → D) : tab 1 f = [f 0] := rfl
theorem tab_of (l : List D) : l = tab l.length fun i => l.getD i .none := tab_ext rfl fun i hi => by simp [List.getD, List.getElem?_eq_getElem hi]
theorem zip_tab (n : Nat) (f g : Nat → D) : zipD (tab n f) (tab n g) = tab n fun i => .tuple [f i, g i] := tab_ext (by simp [zipD, tab_len]) fun i hi => by
  unfold zipD
  have : ((tab n f).zip (tab n g))[i]? = some (f i, g i) := by rw [List.getElem?_zip_eq_some]; exact ⟨tab_get hi, tab_get hi⟩
  rw [List.getElem?_map, this]; rfl
theorem zip3_tab (n : Nat) (f g h : Nat → D) : zip3D (tab n f) (tab n g) (tab n h) = tab n fun i => .tuple [f i, g i, h i] := tab_ext (by simp [zip3D, tab_len]) fun i hi => by
  unfold zip3D
  have : ((tab n f).zip ((tab n g).zip (tab n h)))[i]? = some (f i, g i, h i) := by rw [List.getElem?_zip_eq_some, List.getElem?_zip_eq_some]; exact ⟨tab_get hi, tab_get hi, tab_get hi⟩
  rw [List.getElem?_map, this]; rfl
theorem rng_tab (n : Nat) : ((List.range n).map fun i => PyData.int (i : Nat)) = tab n fun i => .int (i : Nat) := rfl
theorem ix_nat {n i : Nat} (h : i < n) : ixN n (i : Nat) = some i := by
  unfold ixN
  rw [if_pos (by omega), if_pos (by omega)]
  simp
theorem ix_tab {n : Nat} {f : Nat → D} {i : Nat} (h : i < n) : fIx (.tuple (tab n f)) (.int (i : Nat)) = some (.val (f i)) := by
  simp only [fIx, itemsD, atI, tab_len, ix_nat h, Option.bind_some, tab_get h]
theorem ix_tabL {n : Nat} {f : Nat → D} {i : Nat} (h : i < n) : fIx (.list (tab n f)) (.int (i : Nat)) = some (.val (f i)) := by
  simp only [fIx, itemsD, atI, tab_len, ix_nat h, Option.bind_some, tab_get h]
theorem len_tab {n : Nat} {f : Nat → D} : fLen (.tuple (tab n f)) = some (.val (.int (n : Nat))) := by simp only [fLen, tab_len]
theorem len_tabL {n : Nat} {f : Nat → D} : fLen (.list (tab n f)) = some (.val (.int (n : Nat))) := by simp only [fLen, tab_len]

/-! ### matrices -/
def rowD (c : Nat) (f : Nat → Int) : D := .tuple (tab c fun j => .int (f j))
def matD (r c : Nat) (f : Nat → Nat → Int) : D := .tuple (tab r fun i => rowD c (f i))
theorem row_congr {c : Nat} {f g : Nat → Int} (h : ∀ j, j < c → f j = g j) : rowD c f = rowD c g := congrArg PyData.tuple (tab_congr fun j hj => by rw [h j hj])
theorem mat_congr {r c : Nat} {f g : Nat → Nat → Int} (h : ∀ i j, i < r → j < c → f i j = g i j) : matD r c f = matD r c g := congrArg PyData.tuple (tab_congr fun i hi => row_congr fun j hj => h i j hi hj)

/-! ### data without dicts, of bounded depth and weight, that is shown -/
structure Nice (w n : Nat) (d : D) : Prop where
  lay : d.canLay0 = true
  dep : d.depth ≤ n
  wt : d.bulk ≤ w
  lf : d.leavesShort 8 = true
  sh : d.showable = true
theorem nice_int {i : Int} (h : -1000000 < i ∧ i < 1000000) : Nice 0 0 (.int i) := by
  have hn : i.natAbs < 10 ^ 6 := by omega
  refine ⟨rfl, Nat.le_refl _, Nat.le_refl _, ?_, ?_⟩
  · have e := int_text_length_le10 (k := 6) (by decide) hn
    show decide ((Str.ofString (toString i)).length ≤ 8) = true
    rw [PySem.ofString_length]
    exact decide_eq_true (by omega)
  · show decide (i.natAbs.log2 < 1920) = true
    apply decide_eq_true
    by_cases hz : i.natAbs = 0
    · rw [hz]; decide
    · have : i.natAbs.log2 < 20 := (Nat.log2_lt hz).mpr (Nat.lt_trans hn (by decide))
      omega
theorem Nice.mono {w n w' n' : Nat} {d : D} (h : Nice w n d) (hw : w ≤ w') (hn : n ≤ n') : Nice w' n' d := ⟨h.lay, Nat.le_trans h.dep hn, Nat.le_trans h.wt hw, h.lf, h.sh⟩
theorem nice_all {w n : Nat} : ∀ {xs : List D}, (∀ x ∈ xs, Nice w n x) → PyData.canLayAll0 xs = true ∧ PyData.depthAll xs ≤ n ∧ PyData.bulkAll xs ≤ xs.length * (w + 1) ∧ PyData.leavesShortAll 8 xs = true ∧ PyData.showableAll xs = true
  | [], _ => ⟨rfl, Nat.zero_le _, Nat.zero_le _, rfl, rfl⟩
  | x :: r, h => by
    obtain ⟨a1, a2, a3, a4, a5⟩ := h x List.mem_cons_self
    obtain ⟨b1, b2, b3, b4, b5⟩ := nice_all (xs := r) fun y hy => h y (List.mem_cons_of_mem _ hy)
    refine ⟨by simp [PyData.canLayAll0, a1, b1], by simp only [PyData.depthAll]; omega, ?_, by simp [PyData.leavesShortAll, a4, b4], by simp [PyData.showableAll, a5, b5]⟩
    simp only [PyData.bulkAll, List.length_cons, Nat.add_mul]
    omega
theorem nice_tup {w n c : Nat} {xs : List D} (hl : xs.length ≤ c) (h : ∀ x ∈ xs, Nice w n x) : Nice (c * (w + 1)) (n + 1) (.tuple xs) := by
  obtain ⟨h1, h2, h3, h4, h5⟩ := nice_all h
  have m : xs.length * (w + 1) ≤ c * (w + 1) := Nat.mul_le_mul_right _ hl
  exact ⟨by simpa only [PyData.canLay0] using h1, by simp only [PyData.depth]; omega, by simp only [PyData.bulk]; omega, by simpa only [PyData.leavesShort] using h4, by simpa only [PyData.showable] using h5⟩
theorem nice_lst {w n c : Nat} {xs : List D} (hl : xs.length ≤ c) (h : ∀ x ∈ xs, Nice w n x) : Nice (c * (w + 1)) (n + 1) (.list xs) := by
  obtain ⟨h1, h2, h3, h4, h5⟩ := nice_all h
  have m : xs.length * (w + 1) ≤ c * (w + 1) := Nat.mul_le_mul_right _ hl
  exact ⟨by simpa only [PyData.canLay0] using h1, by simp only [PyData.depth]; omega, by simp only [PyData.bulk]; omega, by simpa only [PyData.leavesShort] using h4, by simpa only [PyData.showable] using h5⟩
theorem nice_row {c n : Nat} {f : Nat → Int} (hc : c ≤ n) (h : ∀ j, j < c → -1000000 < f j ∧ f j < 1000000) : Nice n 1 (rowD c f) :=
  (nice_tup (w := 0) (n := 0) (c := n) (by rw [tab_len]; exact hc) fun x hx => by obtain ⟨j, hj, rfl⟩ := mem_tab hx; exact nice_int (h j hj)).mono (by omega) (by omega)
theorem nice_mat {r c m n : Nat} {f : Nat → Nat → Int} (hr : r ≤ m) (hc : c ≤ n) (h : ∀ i j, i < r → j < c → -1000000 < f i j ∧ f i j < 1000000) : Nice (m * (n + 1)) 2 (matD r c f) :=
  nice_tup (by rw [tab_len]; exact hr) fun x hx => by obtain ⟨i, hi, rfl⟩ := mem_tab hx; exact nice_row hc fun j hj => h i j hi hj
theorem Nice.shaped {w n : Nat} {d : D} (h : Nice w n d) (hn : n ≤ 64) : SeqAt.shaped d = true := by
  have := h.dep
  show (d.canLay0 && decide (d.depth ≤ 64)) = true
  rw [h.lay, decide_eq_true (by omega)]; rfl
theorem Nice.str {w n : Nat} {d : D} (h : Nice w n d) (hn : n ≤ 40) (hw : 10 * w + 8 ≤ 1000000) : ∃ y : Str, strD d = some y := by
  have h1 := PyData.shown_le_bulk 8 (by decide) d h.lf
  have h2 := h.wt
  have h3 := h.dep
  have c : d.showable = true ∧ d.hasDict = false ∧ d.shown.length ≤ big ∧ d.depth ≤ 40 := ⟨h.sh, PyData.hasDict_of_canLay d h.lay, by show _ ≤ 1000000; omega, by omega⟩
  cases d with
  | str x => exact ⟨_, rfl⟩
  | dict kv => exact absurd h.lay (by simp [PyData.canLay0])
  | none => exact ⟨_, if_pos (e := none) c⟩
  | bool b => exact ⟨_, if_pos (e := none) c⟩
  | int i => exact ⟨_, if_pos (e := none) c⟩
  | list xs => exact ⟨_, if_pos (e := none) c⟩
  | tuple xs => exact ⟨_, if_pos (e := none) c⟩

/-! ### equal data -/
theorem eqvAll_tab (n m : Nat) (f g : Nat → D) : PyData.eqvAll (tab n f) (tab m g) = (decide (n = m) && (List.range n).all fun i => PyData.eqv (f i) (g i)) := by
  rw [← PySem.SeqAt.eqvAll_eq (tab n f) (tab m g), tab_len, tab_len]
  by_cases h : n = m
  · subst h
    rw [Nat.min_self]
    have : (List.range n).all (PySem.SeqAt.pairEq (tab n f) (tab n g)) = (List.range n).all fun i => PyData.eqv (f i) (g i) := by
      rw [Bool.eq_iff_iff, List.all_eq_true, List.all_eq_true]
      constructor
      · intro q i hi
        have := q i hi
        have hi' := List.mem_range.mp hi
        simpa [PySem.SeqAt.pairEq, List.getD, tab_get hi'] using this
      · intro q i hi
        have := q i hi
        have hi' := List.mem_range.mp hi
        simpa [PySem.SeqAt.pairEq, List.getD, tab_get hi'] using this
    rw [this]; simp
  · simp [h]
/-! ### one step of a suite -/
inductive SetAt : Env → Nat → Slot → Env → Prop
  | z {s t : Slot} {ρ : Env} : SetAt (s :: ρ) 0 t (t :: ρ)
  | s {s t : Slot} {ρ ρ' : Env} {i : Nat} : SetAt ρ i t ρ' → SetAt (s :: ρ) (i + 1) t (s :: ρ')
theorem SetAt.eq {ρ ρ' : Env} {i : Nat} {t : Slot} (h : SetAt ρ i t ρ') : ρ.set i t = ρ' := by
  induction h with
  | z => rfl
  | s _ ih => simp [ih]
section
variable {a b : MS} {t : MT} {m k : M} {ρ ρ1 ρ2 ρ3 : Env} {r x y : RV} {i n : Nat} {p q d : D} {R : Option O} {v : Bool} {g : MG}
theorem st_set (h : m ρ = some (.ok (.val d) ρ1)) (hf : free ρ1 i = true) (hs : SetAt ρ1 i (.val d) ρ2) (hk : b ρ2 = R) : mSeq (mSet i m) b ρ = R := by
  rw [seq_nx (set_of h hf), hs.eq, hk]
theorem st_setO (h : m ρ = some (.ok (.own d) ρ1)) (hf : free ρ1 i = true) (hs : SetAt ρ1 i (.own d false) ρ2) (hk : b ρ2 = R) : mSeq (mSet i m) b ρ = R := by
  rw [seq_nx (setO_of h hf), hs.eq, hk]
theorem st_if (h : mIf t a k' ρ = some (.nx ρ1)) (hk : b ρ1 = R) : mSeq (mIf t a k') b ρ = R := by rw [seq_nx h, hk]
theorem st_skip (h : t ρ = some (.ok false ρ1)) (hk : b ρ1 = R) : mSeq (mIf t a mSkip) b ρ = R := by
  rw [seq_nx (ρ1 := ρ1) (by rw [if_f h]; rfl), hk]
theorem st_ret (h : t ρ = some (.ok true ρ1)) (hk : a ρ1 = some (.rt r ρ2)) : mSeq (mIf t a k') b ρ = some (.rt r ρ2) := by
  rw [seq_rt (by rw [if_t h]; exact hk)]
theorem unp_of (h : m ρ = some (.ok (.val p) ρ1)) (hg : g p ρ1 = some ρ2) : mUnp g m ρ = some (.nx ρ2) := by
  simp [mUnp, h, esc, hg]
theorem st_unp (h : m ρ = some (.ok (.val p) ρ1)) (hg : g p ρ1 = some ρ2) (hk : b ρ2 = R) : mSeq (mUnp g m) b ρ = R := by
  rw [seq_nx (unp_of h hg), hk]
end
end Pi
set_option maxRecDepth 100000
set_option maxHeartbeats 1000000
/-! the pure side: comprehensions over rows told by a function -/
namespace Pi
open PySem PySem.Spec L2
theorem wipe_len (ρ : Env) (vs : List Nat) : (wipeE ρ vs).length = ρ.length := wipeE_len ρ vs
theorem mLc_tab {g : MG} {e : M} {it : MI} {vs : List Nat} {n : Nat} {h f : Nat → D} {ρ ρ1 : Env} (hit : it ρ = some (.ok (tab n h) ρ1)) (hl : n ≤ 1000000) (hv : frees ρ1 vs = true)
    (he : ∀ k, k < n → ∃ ρd x, g (h k) (wipeE ρ1 vs) = some ρd ∧ e ρd = some (.ok x ρd) ∧ esc ρd x = some (f k, ρd) ∧ wipeE ρd vs = wipeE ρ1 vs ∧ frees ρd vs = true) :
    mLc it g mYes e vs ρ = some (.ok (.own (.list (tab n f))) ρ1) := by
  obtain ⟨acc, ρ', e1, h1, h2, h3⟩ := lcL_ind (g := g) (e := e) (vs := vs) (fun i acc ρ => acc = tab i f ∧ wipeE ρ vs = wipeE ρ1 vs ∧ frees ρ vs = true) (tab n h) 0 [] ρ1 ⟨rfl, rfl, hv⟩ fun j d acc ρ hd hI => by
    obtain ⟨rfl, k2, k3⟩ := hI
    obtain ⟨hj, rfl⟩ := get_tab hd
    obtain ⟨ρd, x, q1, q2, q3, q4, q5⟩ := he j hj
    refine ⟨k3, ρd, x, ρd, f j, ρd, by rw [k2]; exact q1, q2, q3, ?_, q4, q5⟩
    rw [Nat.zero_add]
    exact tab_succ j f
  rw [tab_len, Nat.zero_add] at h1
  subst h1
  have := mLc_end (g := g) (e := e) (it := it) (ρ := ρ) hit (by rw [tab_len]; exact hl) hv e1 h3
  rw [rest_wipe h2] at this
  exact this
theorem seq_tab {m : M} {ρ ρ1 ρ2 : Env} {x : RV} {n : Nat} {f : Nat → D} (h : m ρ = some (.ok x ρ1)) (he : esc ρ1 x = some (.tuple (tab n f), ρ2)) (hl : n ≤ 1000000) : iSeq m ρ = some (.ok (tab n f) ρ2) := by
  have hl' : (tab n f).length ≤ big := by rw [tab_len]; exact hl
  simp only [iSeq, h, Res.bind, he, hl', if_true]
theorem seq_tabL {m : M} {ρ ρ1 ρ2 : Env} {x : RV} {n : Nat} {f : Nat → D} (h : m ρ = some (.ok x ρ1)) (he : esc ρ1 x = some (.list (tab n f), ρ2)) (hl : n ≤ 1000000) : iSeq m ρ = some (.ok (tab n f) ρ2) := by
  have hl' : (tab n f).length ≤ big := by rw [tab_len]; exact hl
  simp only [iSeq, h, Res.bind, he, hl', if_true]
theorem rng_tabs (k : Nat) (hk : k ≤ 1000000) {ρ : Env} {m : M} {ρ1 : Env} (h : m ρ = some (.ok (.val (.int (k : Nat))) ρ1)) : iRng1 m ρ = some (.ok (tab k fun i => .int (i : Nat)) ρ1) := rng_of k hk h
theorem rng_tabU (k : Nat) (hk : k ≤ 1000000) {ρ : Env} {m : M} {ρ1 : Env} {x : RV} (h : m ρ = some (.ok x ρ1)) (hx : rd ρ1 x = some (.int (k : Nat))) : iRng1 m ρ = some (.ok (tab k fun i => .int (i : Nat)) ρ1) := by
  have h1 : (k : Int) ≤ 1000000 ∧ (-1000000 : Int) ≤ (k : Int) := by omega
  simp only [iRng1, h, Res.bind, hx, h1, and_self, if_true, Int.toNat_natCast, tab]
theorem zip_of {a : MA} {ρ ρ1 : Env} {n : Nat} {f g : Nat → D} (h : a ρ = some (.ok [.val (.tuple (tab n f)), .val (.tuple (tab n g))] ρ1)) (hl : n ≤ 1000000) : iZip a ρ = some (.ok (tab n fun i => .tuple [f i, g i]) ρ1) := by
  have hf : (tab n f).length ≤ big ∧ (tab n g).length ≤ big := by rw [tab_len, tab_len]; exact ⟨hl, hl⟩
  simp only [iZip, h, Res.bind, hf, and_self, if_true, zip_tab]
theorem zip3_of {a : MA} {ρ ρ1 : Env} {n : Nat} {f g k : Nat → D} (h : a ρ = some (.ok [.val (.tuple (tab n f)), .val (.tuple (tab n g)), .val (.tuple (tab n k))] ρ1)) (hl : n ≤ 1000000) : iZip3 a ρ = some (.ok (tab n fun i => .tuple [f i, g i, k i]) ρ1) := by
  have hf : (tab n f).length ≤ big ∧ (tab n g).length ≤ big ∧ (tab n k).length ≤ big := by rw [tab_len, tab_len, tab_len]; exact ⟨hl, hl, hl⟩
  simp only [iZip3, h, Res.bind, hf, and_self, if_true, zip3_tab]
theorem cat_T {a b : List D} (h : a.length + b.length ≤ 1000000) : fAdd (.tuple a) (.tuple b) = some (.val (.tuple (a ++ b))) := by
  have h' : a.length + b.length ≤ big := h
  simp only [fAdd, fOr, fI, fCatT, h', if_true, Option.none_or, Option.some_or]
theorem cat_L {a b : List D} (h : a.length + b.length ≤ 1000000) : fAdd (.list a) (.list b) = some (.own (.list (a ++ b))) := by
  have h' : a.length + b.length ≤ big := h
  simp only [fAdd, fOr, fI, fCatT, fCatL, h', if_true, Option.none_or, Option.some_or]
theorem rep_T {x : D} {k : Nat} (h : k ≤ 1000) : fMul (.tuple [x]) (.int (k : Nat)) = some (.val (.tuple (tab k fun _ => x))) := by
  have e : repD (Int.toNat (k : Nat)) [x] = List.replicate k x := by
    unfold repD
    rw [Int.toNat_natCast]
    induction k with
    | zero => rfl
    | succ k ih => rw [List.replicate_succ, List.flatten_cons, ih (by omega)]; rfl
  have c : ((-1000 : Int) ≤ (k : Int) ∧ (k : Int) ≤ 1000 ∧ ([x] : List D).length ≤ 1000) := ⟨by omega, by omega, by simp⟩
  rw [← tab_rep, ← e]
  simp [fMul, fOr, fI, fRepT, c, repD]
  try omega
theorem intsD_tab : ∀ (n : Nat) (f : Nat → Int), intsD (tab n fun i => .int (f i)) = some ((List.range n).map f) := fun n f => by
  have : (tab n fun i => PyData.int (f i)) = ((List.range n).map f).map PyData.int := by simp [tab, Function.comp_def]
  rw [this]
  generalize (List.range n).map f = l
  induction l with
  | nil => rfl
  | cons a r ih => simp [intsD, ih]
theorem sum_tab (n : Nat) (f : Nat → Int) : fSum (.tuple (tab n fun i => .int (f i))) = some (.val (.int ((List.range n).map f).sum)) := by
  unfold fSum fInts
  simp only [itemsD, Option.bind_some, intsD_tab, Option.map_some]
def sumN (q : Nat) (N : Nat → Nat) : Nat := ((List.range q).map N).sum
theorem sumN_succ (q : Nat) (N : Nat → Nat) : sumN (q + 1) N = sumN q N + N q := by simp [sumN, List.range_succ]
theorem sumN_int (q : Nat) (N : Nat → Nat) : ((List.range q).map fun v => ((N v : Nat) : Int)).sum = (sumN q N : Nat) := by
  induction q with
  | zero => rfl
  | succ q ih => rw [sumN_succ, List.range_succ, List.map_append, List.sum_append, ih]; simp
theorem sumN_le {N : Nat → Nat} : ∀ {q v : Nat}, v < q → N v ≤ sumN q N
  | q + 1, v, h => by
    rw [sumN_succ]
    by_cases e : v = q
    · subst e; omega
    · have := sumN_le (N := N) (q := q) (v := v) (by omega); omega
theorem sumN_add (q : Nat) (N N' : Nat → Nat) : sumN q (fun v => N v + N' v) = sumN q N + sumN q N' := by
  induction q with
  | zero => rfl
  | succ q ih => rw [sumN_succ, sumN_succ, sumN_succ, ih]; omega
theorem sl_of' {a : M} {lo hi : MO} {ρ ρ1 ρ2 ρ3 : Env} {x r : RV} {l u : Option Int} {d : D} (h : a ρ = some (.ok x ρ1)) (hl : lo ρ1 = some (.ok l ρ2)) (hu : hi ρ2 = some (.ok u ρ3)) (hd : rd ρ3 x = some d) (hf : fSl d l u = some r) : mSl a lo hi ρ = some (.ok r ρ3) := by
  simp only [mSl, h, hl, hu, Res.bind, hd, hf, Option.map_some]
theorem or_f {a b : M} {ρ ρ1 : Env} (h : a ρ = some (.ok (.val (.bool false)) ρ1)) : mOr a b ρ = b ρ1 := by simp only [mOr, h, Res.bind, rd, truD_bool]
theorem or_t {a b : M} {ρ ρ1 : Env} (h : a ρ = some (.ok (.val (.bool true)) ρ1)) : mOr a b ρ = some (.ok (.val (.bool true)) ρ1) := by simp only [mOr, h, Res.bind, rd, truD_bool, RV.fz]
theorem ext_of {i : Nat} {m : M} {ρ ρ1 : Env} {ds es l : List D} {b b' : Bool} (h0 : ρ[i]? = some (.own (.list l) b')) (h : m ρ = some (.ok (.own (.list es)) ρ1)) (hi : ρ1[i]? = some (.own (.list ds) b)) (hl : ds.length + es.length ≤ 1000000) : mExpr (mExt i m) ρ = some (.nx (ρ1.set i (.own (.list (ds ++ es)) b))) := by
  have hl' : ds.length + es.length ≤ big := hl
  simp only [mExpr, mExt, h0, h, Res.bind, hi, hl', if_true]
theorem vf_fr {s : Slot} (h : vf s = true) : fr s = true := by cases s <;> first | rfl | cases h
theorem g2_of {i j : Nat} {x y : D} {ρ : Env} (hi : free ρ i = true) (hj : free (ρ.set i (.val x)) j = true) : gTL (gsCons (gN i) (gsCons (gN j) gsNil)) (.tuple [x, y]) ρ = some ((ρ.set i (.val x)).set j (.val y)) := by
  simp [gTL, gsCons, gsNil, gN, hi, hj]
theorem eq_sh {d e : D} (h1 : SeqAt.shaped d = true) (h2 : SeqAt.shaped e = true) (hs : fEqS false d e = none) : fEq d e = some (.val (.bool (PyData.eqv d e))) := by
  simp only [fEq, fOr, hs, Option.none_or, fEqD, h1, h2, and_self, if_true]
end Pi
set_option maxRecDepth 100000
set_option maxHeartbeats 4000000
namespace K02
open PySem PySem.Spec PyProof.Rows L2 Pi
def top (i : Nat) : Stmt := PySem.Challenge.pw_severalmaps_k02_sums_and_turned_modules.main.body.getD i (.Pass ⟨0, 0, 0, 0⟩)
abbrev st_is_row : Stmt := top 6
abbrev st_transposed : Stmt := top 8
abbrev st_is_prime : Stmt := top 16
abbrev st_are_dims : Stmt := top 17
abbrev st_is_arrow : Stmt := top 19
abbrev st_are_of_one_kind : Stmt := top 21
abbrev st_size : Stmt := top 24
abbrev st_blocks : Stmt := top 26
abbrev st__law_mixed : Stmt := top 30
abbrev st__law_sum : Stmt := top 39
abbrev st__law_turned : Stmt := top 40
abbrev st__law_unlike : Stmt := top 42
abbrev st_is_matrix : Stmt := top 7
abbrev st_are_arrows : Stmt := top 18
abbrev st_check_kind : Stmt := top 22
abbrev st_turn : Stmt := top 28
abbrev st__law_numbers : Stmt := top 31
abbrev st__law_draw : Stmt := top 32
abbrev st_are_maps : Stmt := top 20
abbrev st__law_kind : Stmt := top 35
abbrev st__law_dims : Stmt := top 36
abbrev st__law_matrix : Stmt := top 37
abbrev st_is_module : Stmt := top 15
abbrev st__law_module : Stmt := top 38
abbrev st_check_module : Stmt := top 14
abbrev st_check_pair : Stmt := top 23
abbrev st_turned : Stmt := top 27
abbrev st_add : Stmt := top 25
abbrev st__law_word : Stmt := top 41
abbrev st__law_equal : Stmt := top 33
abbrev st__law_all_equal : Stmt := top 34
abbrev st_law : Stmt := top 43
abbrev c_MOST_ARROWS : D := .int 5
abbrev c_MOST_SIZE : D := .int 125
abbrev c_MOST_SPACES : D := .int 4
abbrev c_PRIMES : D := .tuple [.int 2, .int 3, .int 5, .int 7, .int 11, .int 13]
/-- the classes that are raised -/
def nrm (c : Nat) : Nat := if c = 3 then 3 else if c = 2 then 2 else 1
def isa (j c : Nat) : Bool := nrm c == j || j == 0
abbrev clsOf (ad : Nat → Addr) : Nat → Value := fun c => .ref (ad (nrm c))
def m_is_row : MS := (mSeq (mIf (mtOr (mTru (mUn (fTyNe "tuple") (mVar 0))) (mTru (mOp fNe (mUn fLen (mVar 0)) (mVar 1)))) (mRet (mC (.bool false))) mSkip)
  (mSeq (mIf (mTru (mLc (iSeq (mVar 0)) (gN 3) (mTru (mUn (fTyNe "int") (mVar 3))) (mVar 3) [3])) (mRet (mC (.bool false))) mSkip)
  (mRet (mOr (mOp fEq (mVar 1) (mC (.int 0))) (mAnd (mOp fGe (mUn fMin (mVar 0)) (mC (.int 0))) (mOp fLt (mUn fMax (mVar 0)) (mVar 2)))))))
def f_is_row : Pi.Env → Option Out := runF 4 m_is_row
def E1_transposed : M := (mOp fIx (mVar 3) (mVar 2))
def E2_transposed : M := (mUn fTuple (mLc (iSeq (mVar 0)) (gN 3) mYes E1_transposed [3]))
def m_transposed : MS := (mRet (mUn fTuple (mLc (iRng1 (mVar 1)) (gN 2) mYes E2_transposed [2])))
def f_transposed : Pi.Env → Option Out := runF 4 m_transposed
def m_is_prime : MS := (mRet (mAnd (mUn (fTyEq "int") (mVar 0)) (mOp (fIn false) (mVar 0) (mC c_PRIMES))))
def f_is_prime : Pi.Env → Option Out := runF 1 m_is_prime
def m_are_dims : MS := (mSeq (mIf (mtOr (mTru (mUn (fTyNe "tuple") (mVar 0))) (mtNot (mTru (mChain fLe fLe (mC (.int 1)) (mUn fLen (mVar 0)) (mC c_MOST_SPACES))))) (mRet (mC (.bool false))) mSkip)
  (mRet (mAnd (mNot (mLc (iSeq (mVar 0)) (gN 1) (mtOr (mTru (mUn (fTyNe "int") (mVar 1))) (mTru (mOp fLt (mVar 1) (mC (.int 0))))) (mVar 1) [1])) (mOp fLe (mUn fSum (mVar 0)) (mC c_MOST_SIZE)))))
def f_are_dims : Pi.Env → Option Out := runF 2 m_are_dims
def m_is_arrow : MS := (mSeq (mIf (mtOr (mTru (mUn (fTyNe "tuple") (mVar 0))) (mTru (mOp fNe (mUn fLen (mVar 0)) (mC (.int 2))))) (mRet (mC (.bool false))) mSkip)
  (mRet (mNot (mLc (iSeq (mVar 0)) (gN 2) (mtOr (mTru (mUn (fTyNe "int") (mVar 2))) (mtNot (mTru (mChain fLe fLt (mC (.int 0)) (mVar 2) (mVar 1))))) (mVar 2) [2]))))
def f_is_arrow : Pi.Env → Option Out := runF 3 m_is_arrow
def m_are_of_one_kind : MS := (mRet (mAnd (mOp fEq (mSl (mVar 0) mON (mOS (mC (.int 2)))) (mSl (mVar 1) mON (mOS (mC (.int 2))))) (mOp fEq (mUn fLen (mOp fIx (mVar 0) (mC (.int 2)))) (mUn fLen (mOp fIx (mVar 1) (mC (.int 2)))))))
def f_are_of_one_kind : Pi.Env → Option Out := runF 2 m_are_of_one_kind
def m_size : MS := (mRet (mUn fSum (mOp fIx (mVar 0) (mC (.int 2)))))
def f_size : Pi.Env → Option Out := runF 1 m_size
def E1_blocks : M := (mOp fAdd (mVar 6) (mOp fMul (mTup (mConsV (mC (.int 0)) mNilA)) (mVar 3)))
def E2_blocks : M := (mOp fAdd (mOp fMul (mTup (mConsV (mC (.int 0)) mNilA)) (mVar 2)) (mVar 6))
def m_blocks : MS := (mSeq (mSet 4 (mLc (iSeq (mVar 0)) (gN 6) mYes E1_blocks [6]))
  (mSeq (mSet 5 (mLc (iSeq (mVar 1)) (gN 6) mYes E2_blocks [6]))
  (mRet (mUn fTuple (mOp fAdd (mVar 4) (mVar 5))))))
def f_blocks : Pi.Env → Option Out := runF 7 m_blocks
def m__law_mixed : MS := (mSeq (mSet 2 (mOp fMod (mOp fAdd (mOp fAdd (mOp fMul (mVar 0) (mC (.int 48271))) (mOp fMul (mVar 1) (mC (.int 69621)))) (mC (.int 12345))) (mC (.int 2147483647))))
  (mRet (mOp fMod (mOp fAdd (mOp fMul (mVar 2) (mOp fAdd (mOp fDiv (mVar 2) (mC (.int 65536))) (mC (.int 3)))) (mVar 1)) (mC (.int 2147483647)))))
def f__law_mixed : Pi.Env → Option Out := runF 3 m__law_mixed
def E1__law_sum : M := (mOp fAdd (mVar 11) (mOp fMul (mTup (mConsV (mC (.int 0)) mNilA)) (mOp fIx (mOp fIx (mVar 1) (mC (.int 2))) (mVar 8))))
def E2__law_sum : M := (mOp fAdd (mOp fMul (mTup (mConsV (mC (.int 0)) mNilA)) (mOp fIx (mVar 4) (mVar 8))) (mVar 11))
def L3__law_sum : MS := (mSeq (mUnp (gTL (gsCons (gN 8) (gsCons (gN 9) gsNil))) (mOp fIx (mVar 3) (mVar 7)))
  (mSeq (mSet 10 (mLc (iSeq (mOp fIx (mVar 5) (mVar 7))) (gN 11) mYes E1__law_sum [11]))
  (mSeq (mExpr (mExt 10 (mLc (iSeq (mOp fIx (mOp fIx (mVar 1) (mC (.int 3))) (mVar 7))) (gN 11) mYes E2__law_sum [11])))
  (mExpr (mApp 6 (mUn fTuple (mVar 10)))))))
def E4__law_sum : M := (mOp fAdd (mOp fIx (mVar 4) (mVar 12)) (mOp fIx (mOp fIx (mVar 1) (mC (.int 2))) (mVar 12)))
def m__law_sum : MS := (mSeq (mUnp (gTL (gsCons (gN 2) (gsCons (gN 3) (gsCons (gN 4) (gsCons (gN 5) gsNil))))) (mVar 0))
  (mSeq (mSet 6 (mLst mNilA))
  (mSeq (mFor (iRng1 (mUn fLen (mVar 3))) (gN 7) L3__law_sum)
  (mRet (mTup (mConsV (mVar 2) (mConsV (mVar 3) (mConsV (mUn fTuple (mLc (iRng1 (mUn fLen (mVar 4))) (gN 12) mYes E4__law_sum [12])) (mConsV (mUn fTuple (mVar 6)) mNilA)))))))))
def f__law_sum : Pi.Env → Option Out := runF 13 m__law_sum
def E1__law_turned : M := (mOp fIx (mOp fIx (mOp fIx (mVar 4) (mVar 6)) (mVar 10)) (mVar 9))
def E2__law_turned : M := (mUn fTuple (mLc (iRng1 (mOp fIx (mVar 3) (mVar 8))) (gN 10) mYes E1__law_turned [10]))
def L3__law_turned : MS := (mSeq (mUnp (gTL (gsCons (gN 7) (gsCons (gN 8) gsNil))) (mOp fIx (mVar 2) (mVar 6)))
  (mExpr (mApp 5 (mUn fTuple (mLc (iRng1 (mOp fIx (mVar 3) (mVar 7))) (gN 9) mYes E2__law_turned [9])))))
def E4__law_turned : M := (mTup (mConsV (mVar 8) (mConsV (mVar 7) mNilA)))
def m__law_turned : MS := (mSeq (mUnp (gTL (gsCons (gN 1) (gsCons (gN 2) (gsCons (gN 3) (gsCons (gN 4) gsNil))))) (mVar 0))
  (mSeq (mSet 5 (mLst mNilA))
  (mSeq (mFor (iRng1 (mUn fLen (mVar 2))) (gN 6) L3__law_turned)
  (mRet (mTup (mConsV (mVar 1) (mConsV (mUn fTuple (mLc (iSeq (mVar 2)) (gTL (gsCons (gN 7) (gsCons (gN 8) gsNil))) mYes E4__law_turned [7, 8])) (mConsV (mVar 3) (mConsV (mUn fTuple (mVar 5)) mNilA)))))))))
def f__law_turned : Pi.Env → Option Out := runF 11 m__law_turned
def E1__law_unlike : M := (mUn fTuple (mLc (iSeq (mVar 6)) (gN 8) mYes (mC (.int 0)) [8]))
def E2__law_unlike : M := (mUn fTuple (mLc (iSeq (mVar 7)) (gN 6) mYes E1__law_unlike [6]))
def m__law_unlike : MS := (mSeq (mUnp (gTL (gsCons (gN 1) (gsCons (gN 2) (gsCons (gN 3) (gsCons (gN 4) gsNil))))) (mVar 0))
  (mSeq (mSet 5 (mLst (mConsV (mTup (mConsV (mIfE (mTru (mOp fGt (mVar 1) (mC (.int 2)))) (mC (.int 2)) (mC (.int 3))) (mConsV (mVar 2) (mConsV (mVar 3) (mConsV (mUn fTuple (mLc (iSeq (mVar 4)) (gN 7) mYes E2__law_unlike [7])) mNilA))))) mNilA)))
  (mSeq (mExpr (mApp 5 (mTup (mConsV (mVar 1) (mConsV (mOp fAdd (mVar 2) (mTup (mConsV (mTup (mConsV (mC (.int 0)) (mConsV (mC (.int 0)) mNilA))) mNilA))) (mConsV (mVar 3) (mConsV (mOp fAdd (mVar 4) (mTup (mConsV (mOp fMul (mTup (mConsV (mOp fMul (mTup (mConsV (mC (.int 0)) mNilA)) (mOp fIx (mVar 3) (mC (.int 0)))) mNilA)) (mOp fIx (mVar 3) (mC (.int 0)))) mNilA))) mNilA)))))))
  (mSeq (mExpr (mApp 5 (mTup (mConsV (mVar 1) (mConsV (mVar 2) (mConsV (mOp fAdd (mVar 3) (mTup (mConsV (mC (.int 0)) mNilA))) (mConsV (mVar 4) mNilA)))))))
  (mRet (mLc (iSeq (mVar 5)) (gN 6) (mtAnd (mTru (mOp fLt (mUn fLen (mOp fIx (mVar 6) (mC (.int 1)))) (mC (.int 6)))) (mTru (mOp fLt (mUn fLen (mOp fIx (mVar 6) (mC (.int 2)))) (mC (.int 5))))) (mVar 6) [6]))))))
def f__law_unlike : Pi.Env → Option Out := runF 9 m__law_unlike
def E1_is_matrix : M := (mCall f_is_row (mConsV (mVar 4) (mConsV (mVar 2) (mConsV (mVar 3) mNilA))))
def m_is_matrix : MS := (mSeq (mIf (mtOr (mTru (mUn (fTyNe "tuple") (mVar 0))) (mTru (mOp fNe (mUn fLen (mVar 0)) (mVar 1)))) (mRet (mC (.bool false))) mSkip)
  (mRet (mUn fAll (mLc (iSeq (mVar 0)) (gN 4) mYes E1_is_matrix [4]))))
def f_is_matrix : Pi.Env → Option Out := runF 5 m_is_matrix
def E1_are_arrows : M := (mCall f_is_arrow (mConsV (mVar 2) (mConsV (mVar 1) mNilA)))
def m_are_arrows : MS := (mSeq (mIf (mtOr (mTru (mUn (fTyNe "tuple") (mVar 0))) (mTru (mOp fGt (mUn fLen (mVar 0)) (mC c_MOST_ARROWS)))) (mRet (mC (.bool false))) mSkip)
  (mRet (mUn fAll (mLc (iSeq (mVar 0)) (gN 2) mYes E1_are_arrows [2]))))
def f_are_arrows : Pi.Env → Option Out := runF 3 m_are_arrows
def m_check_kind : MS := (mIf (mtNot (mTru (mCall f_are_of_one_kind (mConsV (mVar 0) (mConsV (mVar 1) mNilA))))) (mRaise 2) mSkip)
def f_check_kind : Pi.Env → Option Out := runF 2 m_check_kind
def E1_turn : M := (mCall f_transposed (mConsV (mVar 6) (mConsV (mOp fIx (mVar 3) (mVar 7)) mNilA)))
def E2_turn : M := (mTup (mConsV (mVar 9) (mConsV (mVar 7) mNilA)))
def m_turn : MS := (mSeq (mUnp (gTL (gsCons (gN 1) (gsCons (gN 2) (gsCons (gN 3) (gsCons (gN 4) gsNil))))) (mVar 0))
  (mSeq (mSet 5 (mLc (iZip (mConsV (mVar 4) (mConsV (mVar 2) mNilA))) (gTL (gsCons (gN 6) (gsCons (gTL (gsCons (gN 7) (gsCons (gN 8) gsNil))) gsNil))) mYes E1_turn [6, 7, 8]))
  (mRet (mTup (mConsV (mVar 1) (mConsV (mUn fTuple (mLc (iSeq (mVar 2)) (gTL (gsCons (gN 7) (gsCons (gN 9) gsNil))) mYes E2_turn [7, 9])) (mConsV (mVar 3) (mConsV (mUn fTuple (mVar 5)) mNilA))))))))
def f_turn : Pi.Env → Option Out := runF 10 m_turn
def L1__law_numbers : MS := (mIf (mTru (mOp fGt (mVar 3) (mC (.int 0)))) (mSeq (mExpr (mApp 1 (mOp fMod (mVar 3) (mC (.int 1000000)))))
  (mSet 3 (mOp fDiv (mVar 3) (mC (.int 1000000))))) mSkip)
def L2__law_numbers : MS := (mExpr (mApp 1 (mOp fMod (mCall f__law_mixed (mConsV (mCall f__law_mixed (mConsV (mOp fMod (mVar 2) (mC (.int 2147483647))) (mConsV (mVar 4) mNilA))) (mConsV (mOp fAdd (mVar 4) (mC (.int 7))) mNilA))) (mC (.int 1000000)))))
def L3__law_numbers : MS := (mIf (mTru (mOp fGe (mVar 2) (mOp fPow (mC (.int 10)) (mC (.int 18))))) (mSeq (mSet 3 (mVar 2))
  (mFor (iRng1 (mC (.int 60))) (gN 4) L1__law_numbers)) (mSeq (mExpr (mApp 1 (mOp fMod (mVar 2) (mC (.int 1000000)))))
  (mFor (iRng1 (mC (.int 5))) (gN 4) L2__law_numbers)))
def m__law_numbers : MS := (mSeq (mSet 1 (mLst mNilA))
  (mSeq (mFor (iSeq (mVar 0)) (gN 2) L3__law_numbers)
  (mRet (mVar 1))))
def f__law_numbers : Pi.Env → Option Out := runF 5 m__law_numbers
def m__law_draw : MS := (mSeq (mSet 1 (mOp fIx (mVar 0) (mC (.int 1))))
  (mSeq (mPutL 0 (mC (.int 1)) (mOp fAdd (mVar 1) (mC (.int 1))))
  (mSeq (mIf (mTru (mOp fLt (mVar 1) (mUn fLen (mOp fIx (mVar 0) (mC (.int 0)))))) (mRet (mOp fIx (mOp fIx (mVar 0) (mC (.int 0))) (mVar 1))) mSkip)
  (mSeq (mSet 2 (mOp fAdd (mC (.int 1)) (mVar 1)))
  (mSeq (mIf (mTru (mOp fGt (mUn fLen (mOp fIx (mVar 0) (mC (.int 0)))) (mC (.int 0)))) (mSet 2 (mOp fAdd (mVar 2) (mOp fMul (mC (.int 1009)) (mOp fIx (mOp fIx (mVar 0) (mC (.int 0))) (mC (.int 0)))))) mSkip)
  (mRet (mOp fMod (mCall f__law_mixed (mConsV (mCall f__law_mixed (mConsV (mVar 2) (mConsV (mVar 1) mNilA))) (mConsV (mC (.int 5)) mNilA))) (mC (.int 1000000)))))))))
def f__law_draw : Pi.Env → Option Out := runF 3 m__law_draw
def E1_are_maps : M := (mCall f_is_matrix (mConsV (mVar 4) (mConsV (mOp fIx (mVar 3) (mVar 6)) (mConsV (mOp fIx (mVar 3) (mVar 5)) (mConsV (mVar 1) mNilA)))))
def m_are_maps : MS := (mSeq (mIf (mtOr (mTru (mUn (fTyNe "tuple") (mVar 0))) (mTru (mOp fNe (mUn fLen (mVar 0)) (mUn fLen (mVar 2))))) (mRet (mC (.bool false))) mSkip)
  (mRet (mUn fAll (mLc (iZip (mConsV (mVar 0) (mConsV (mVar 2) mNilA))) (gTL (gsCons (gN 4) (gsCons (gTL (gsCons (gN 5) (gsCons (gN 6) gsNil))) gsNil))) mYes E1_are_maps [4, 5, 6]))))
def f_are_maps : Pi.Env → Option Out := runF 7 m_are_maps
def E1__law_kind : M := (mUn fMax (mVar 7))
def E2__law_kind : M := (mTup (mConsV (mOp fMod (mCall f__law_draw (mConsR 0 mNilA)) (mVar 5)) (mConsV (mOp fMod (mCall f__law_draw (mConsR 0 mNilA)) (mVar 5)) mNilA)))
def m__law_kind : MS := (mSeq (mSet 1 (mLst (mConsV (mTup (mConsV (mTup (mConsV (mC (.int 0)) (mConsV (mC (.int 1)) mNilA))) (mConsV (mTup (mConsV (mC (.int 0)) (mConsV (mC (.int 1)) mNilA))) mNilA))) (mConsV (mTup (mConsV (mTup (mConsV (mC (.int 0)) (mConsV (mC (.int 1)) mNilA))) (mConsV (mTup (mConsV (mC (.int 0)) (mConsV (mC (.int 1)) mNilA))) mNilA))) (mConsV (mTup (mConsV (mTup (mConsV (mC (.int 0)) (mConsV (mC (.int 1)) mNilA))) mNilA)) (mConsV (mTup (mConsV (mTup (mConsV (mC (.int 0)) (mConsV (mC (.int 0)) mNilA))) (mConsV (mTup (mConsV (mC (.int 0)) (mConsV (mC (.int 0)) mNilA))) mNilA))) (mConsV (mTup (mConsV (mTup (mConsV (mC (.int 0)) (mConsV (mC (.int 1)) mNilA))) (mConsV (mTup (mConsV (mC (.int 1)) (mConsV (mC (.int 0)) mNilA))) mNilA))) (mConsV (mTup (mConsV (mTup (mConsV (mC (.int 0)) (mConsV (mC (.int 2)) mNilA))) (mConsV (mTup (mConsV (mC (.int 1)) (mConsV (mC (.int 2)) mNilA))) mNilA))) (mConsV (mTup (mConsV (mTup (mConsV (mC (.int 0)) (mConsV (mC (.int 1)) mNilA))) (mConsV (mTup (mConsV (mC (.int 1)) (mConsV (mC (.int 2)) mNilA))) (mConsV (mTup (mConsV (mC (.int 0)) (mConsV (mC (.int 2)) mNilA))) mNilA)))) (mConsV (mTup (mConsV (mTup (mConsV (mC (.int 0)) (mConsV (mC (.int 1)) mNilA))) (mConsV (mTup (mConsV (mC (.int 0)) (mConsV (mC (.int 1)) mNilA))) (mConsV (mTup (mConsV (mC (.int 0)) (mConsV (mC (.int 1)) mNilA))) mNilA)))) (mConsV (mTup (mConsV (mTup (mConsV (mC (.int 0)) (mConsV (mC (.int 3)) mNilA))) (mConsV (mTup (mConsV (mC (.int 1)) (mConsV (mC (.int 3)) mNilA))) (mConsV (mTup (mConsV (mC (.int 2)) (mConsV (mC (.int 3)) mNilA))) mNilA)))) (mConsV (mTup (mConsV (mTup (mConsV (mC (.int 0)) (mConsV (mC (.int 0)) mNilA))) mNilA)) (mConsV (mTup mNilA) mNilA)))))))))))))
  (mSeq (mSet 2 (mOp fIx (mLst (mConsV (mC (.int 2)) (mConsV (mC (.int 2)) (mConsV (mC (.int 3)) (mConsV (mC (.int 3)) (mConsV (mC (.int 5)) (mConsV (mC (.int 7)) (mConsV (mC (.int 11)) (mConsV (mC (.int 13)) mNilA))))))))) (mOp fMod (mCall f__law_draw (mConsR 0 mNilA)) (mC (.int 8)))))
  (mSeq (mSet 3 (mOp fMod (mCall f__law_draw (mConsR 0 mNilA)) (mC (.int 13))))
  (mSeq (mIf (mTru (mOp fLt (mVar 3) (mC (.int 11)))) (mSeq (mSet 4 (mOp fIx (mVar 1) (mVar 3)))
  (mRet (mLst (mConsV (mVar 2) (mConsV (mVar 4) (mConsV (mOp fAdd (mC (.int 1)) (mUn fMax (mOp fAdd (mLst (mConsV (mC (.int 0)) mNilA)) (mLc (iSeq (mVar 4)) (gN 7) mYes E1__law_kind [7])))) mNilA)))))) mSkip)
  (mSeq (mSet 5 (mOp fAdd (mC (.int 1)) (mOp fMod (mCall f__law_draw (mConsR 0 mNilA)) (mC (.int 4)))))
  (mSeq (mSet 4 (mLc (iRng1 (mOp fMod (mCall f__law_draw (mConsR 0 mNilA)) (mC (.int 6)))) (gN 6) mYes E2__law_kind [6]))
  (mRet (mLst (mConsV (mVar 2) (mConsV (mUn fTuple (mVar 4)) (mConsV (mVar 5) mNilA)))))))))))
def f__law_kind : Pi.Env → Option Out := runF 8 m__law_kind
def L1__law_dims : MS := (mSeq (mSet 5 (mOp fMod (mCall f__law_draw (mConsR 0 mNilA)) (mOp fAdd (mVar 1) (mC (.int 1)))))
  (mIf (mTru (mOp fLt (mVar 5) (mVar 1))) (mPutL 3 (mVar 5) (mOp fAdd (mOp fIx (mVar 3) (mVar 5)) (mC (.int 1)))) mSkip))
def m__law_dims : MS := (mSeq (mSet 3 (mLc (iRng1 (mVar 1)) (gN 5) mYes (mC (.int 0)) [5]))
  (mSeq (mFor (iRng1 (mVar 2)) (gN 4) L1__law_dims)
  (mRet (mUn fTuple (mVar 3)))))
def f__law_dims : Pi.Env → Option Out := runF 6 m__law_dims
def L1__law_matrix : MS := (mIf (mTru (mOp fEq (mVar 4) (mC (.int 0)))) (mExpr (mApp 7 (mUn fInt (mOp fEq (mVar 6) (mVar 8))))) (mIf (mTru (mOp fEq (mVar 4) (mC (.int 1)))) (mExpr (mApp 7 (mOp fMod (mCall f__law_draw (mConsR 0 mNilA)) (mVar 1)))) (mExpr (mApp 7 (mOp fIx (mLst (mConsV (mC (.int 0)) (mConsV (mC (.int 0)) (mConsV (mC (.int 1)) (mConsV (mOp fMod (mCall f__law_draw (mConsR 0 mNilA)) (mVar 1)) mNilA))))) (mOp fMod (mCall f__law_draw (mConsR 0 mNilA)) (mC (.int 4))))))))
def L2__law_matrix : MS := (mSeq (mSet 7 (mLst mNilA))
  (mSeq (mFor (iRng1 (mVar 3)) (gN 8) L1__law_matrix)
  (mExpr (mApp 5 (mUn fTuple (mVar 7))))))
def m__law_matrix : MS := (mSeq (mSet 4 (mOp fMod (mCall f__law_draw (mConsR 0 mNilA)) (mC (.int 4))))
  (mSeq (mSet 5 (mLst mNilA))
  (mSeq (mFor (iRng1 (mVar 2)) (gN 6) L2__law_matrix)
  (mRet (mUn fTuple (mVar 5))))))
def f__law_matrix : Pi.Env → Option Out := runF 9 m__law_matrix
def m_is_module : MS := (mSeq (mIf (mtOr (mTru (mUn (fTyNe "tuple") (mVar 0))) (mTru (mOp fNe (mUn fLen (mVar 0)) (mC (.int 4))))) (mRet (mC (.bool false))) mSkip)
  (mSeq (mUnp (gTL (gsCons (gN 1) (gsCons (gN 2) (gsCons (gN 3) (gsCons (gN 4) gsNil))))) (mVar 0))
  (mSeq (mIf (mtOr (mtNot (mTru (mCall f_is_prime (mConsV (mVar 1) mNilA)))) (mtOr (mtNot (mTru (mCall f_are_dims (mConsV (mVar 3) mNilA)))) (mtNot (mTru (mCall f_are_arrows (mConsV (mVar 2) (mConsV (mUn fLen (mVar 3)) mNilA))))))) (mRet (mC (.bool false))) mSkip)
  (mRet (mCall f_are_maps (mConsV (mVar 4) (mConsV (mVar 1) (mConsV (mVar 2) (mConsV (mVar 3) mNilA)))))))))
def f_is_module : Pi.Env → Option Out := runF 5 m_is_module
def E1__law_module : M := (mCall f__law_matrix (mConsR 0 (mConsV (mVar 3) (mConsV (mOp fIx (mVar 2) (mVar 7)) (mConsV (mOp fIx (mVar 2) (mVar 6)) mNilA)))))
def m__law_module : MS := (mSeq (mUnp (gTL (gsCons (gN 3) (gsCons (gN 4) (gsCons (gN 5) gsNil)))) (mVar 1))
  (mRet (mTup (mConsV (mVar 3) (mConsV (mVar 4) (mConsV (mVar 2) (mConsV (mUn fTuple (mLc (iSeq (mVar 4)) (gTL (gsCons (gN 6) (gsCons (gN 7) gsNil))) mYes E1__law_module [6, 7])) mNilA)))))))
def f__law_module : Pi.Env → Option Out := runF 8 m__law_module
def m_check_module : MS := (mIf (mtNot (mTru (mCall f_is_module (mConsV (mVar 0) mNilA)))) (mRaise 1) mSkip)
def f_check_module : Pi.Env → Option Out := runF 1 m_check_module
def m_check_pair : MS := (mSeq (mExpr (mCall f_check_module (mConsV (mVar 0) mNilA)))
  (mSeq (mExpr (mCall f_check_module (mConsV (mVar 1) mNilA)))
  (mExpr (mCall f_check_kind (mConsV (mVar 0) (mConsV (mVar 1) mNilA))))))
def f_check_pair : Pi.Env → Option Out := runF 2 m_check_pair
def m_turned : MS := (mSeq (mExpr (mCall f_check_module (mConsV (mVar 0) mNilA)))
  (mRet (mCall f_turn (mConsV (mVar 0) mNilA))))
def f_turned : Pi.Env → Option Out := runF 1 m_turned
def E1_add : M := (mCall f_blocks (mConsV (mVar 8) (mConsV (mVar 9) (mConsV (mOp fIx (mVar 4) (mVar 10)) (mConsV (mOp fIx (mVar 6) (mVar 10)) mNilA)))))
def E2_add : M := (mOp fAdd (mVar 12) (mVar 13))
def m_add : MS := (mSeq (mExpr (mCall f_check_pair (mConsV (mVar 0) (mConsV (mVar 1) mNilA))))
  (mSeq (mIf (mTru (mOp fGt (mOp fAdd (mCall f_size (mConsV (mVar 0) mNilA)) (mCall f_size (mConsV (mVar 1) mNilA))) (mC c_MOST_SIZE))) (mRaise 3) mSkip)
  (mSeq (mUnp (gTL (gsCons (gN 2) (gsCons (gN 3) (gsCons (gN 4) (gsCons (gN 5) gsNil))))) (mVar 0))
  (mSeq (mSet 6 (mOp fIx (mVar 1) (mC (.int 2))))
  (mSeq (mSet 7 (mLc (iZip3 (mConsV (mVar 3) (mConsV (mVar 5) (mConsV (mOp fIx (mVar 1) (mC (.int 3))) mNilA)))) (gTL (gsCons (gTL (gsCons (gN 10) (gsCons (gN 11) gsNil))) (gsCons (gN 8) (gsCons (gN 9) gsNil)))) mYes E1_add [10, 11, 8, 9]))
  (mRet (mTup (mConsV (mVar 2) (mConsV (mVar 3) (mConsV (mUn fTuple (mLc (iZip (mConsV (mVar 4) (mConsV (mVar 6) mNilA))) (gTL (gsCons (gN 12) (gsCons (gN 13) gsNil))) mYes E2_add [12, 13])) (mConsV (mUn fTuple (mVar 7)) mNilA)))))))))))
def f_add : Pi.Env → Option Out := runF 14 m_add
def m__law_word : MS := (mSeq (mTry 2 (mExpr (mCall f_add (mConsV (mVar 0) (mConsV (mVar 1) mNilA)))) (isa 0) (fun c => (orR (if (isa 1 c) = true then (orR (some (.val (.str "module"))) none) else none) (orR (if (isa 2 c) = true then (orR (some (.val (.str "argument"))) none) else none) (orR (if (isa 3 c) = true then (orR (some (.val (.str "large"))) none) else none) (orR (some (.val (.str "other"))) none))))))
  (mRet (mC (.str "none"))))
def f__law_word : Pi.Env → Option Out := runF 3 m__law_word
def m__law_equal (q__law_equal q__law_all_equal : Pi.Env → Option Out) : MS := (mSeq (mIf (mTru (mUn (fIsi isL) (mVar 1))) (mSeq (mIf (mtOr (mtNot (mTru (mUn (fIsi isL) (mVar 0)))) (mTru (mOp fNe (mUn fLen (mVar 0)) (mUn fLen (mVar 1))))) (mRet (mC (.bool false))) mSkip)
  (mRet (mCall q__law_all_equal (mConsV (mVar 0) (mConsV (mVar 1) mNilA))))) mSkip)
  (mSeq (mIf (mTru (mUn (fIsi isTu) (mVar 1))) (mSeq (mIf (mtOr (mtNot (mTru (mUn (fIsi isTu) (mVar 0)))) (mTru (mOp fNe (mUn fLen (mVar 0)) (mUn fLen (mVar 1))))) (mRet (mC (.bool false))) mSkip)
  (mRet (mCall q__law_all_equal (mConsV (mVar 0) (mConsV (mVar 1) mNilA))))) mSkip)
  (mSeq (mIf (mTru (mUn (fIsi isB) (mVar 1))) (mRet (mAnd (mUn (fIsi isB) (mVar 0)) (mOp fEq (mVar 0) (mVar 1)))) mSkip)
  (mSeq (mIf (mTru (mUn (fIsi isI) (mVar 1))) (mRet (mAnd (mUn (fIsi isI) (mVar 0)) (mAnd (mNot (mUn (fIsi isB) (mVar 0))) (mOp fEq (mVar 0) (mVar 1))))) mSkip)
  (mSeq (mIf (mTru (mUn (fIsi isS) (mVar 1))) (mRet (mAnd (mUn (fIsi isS) (mVar 0)) (mOp fEq (mVar 0) (mVar 1)))) mSkip)
  (mRet (mOp (fIsN false) (mVar 0) (mC .none))))))))
def L1__law_all_equal (q__law_equal q__law_all_equal : Pi.Env → Option Out) : MS := (mIf (mtNot (mTru (mCall q__law_equal (mConsV (mOp fIx (mVar 0) (mVar 2)) (mConsV (mOp fIx (mVar 1) (mVar 2)) mNilA))))) (mRet (mC (.bool false))) mSkip)
def m__law_all_equal (q__law_equal q__law_all_equal : Pi.Env → Option Out) : MS := (mSeq (mFor (iRng1 (mUn fLen (mVar 1))) (gN 2) (L1__law_all_equal q__law_equal q__law_all_equal))
  (mRet (mC (.bool true))))
def rec__law_equal : Nat → Nat → Pi.Env → Option Out
  | 0, _ => fun _ => none
  | k + 1, 0 => runF 2 (m__law_equal (rec__law_equal k 0) (rec__law_equal k 1))
  | k + 1, 1 => runF 3 (m__law_all_equal (rec__law_equal k 0) (rec__law_equal k 1))
  | _ + 1, _ => fun _ => none
def f__law_equal : Pi.Env → Option Out := rec__law_equal 16 0
def f__law_all_equal : Pi.Env → Option Out := rec__law_equal 16 1
def L1_law : MS := (mIf (mtNot (mTru (mCall f__law_equal (mConsV (mCall f_add (mConsV (mVar 7) (mConsV (mVar 8) mNilA))) (mConsV (mCall f__law_sum (mConsV (mVar 7) (mConsV (mVar 8) mNilA))) mNilA))))) (mRet (mC (.bool false))) mSkip)
def L2_law : MS := (mSeq (mIf (mtOr (mTru (mOp fNe (mCall f__law_word (mConsV (mVar 4) (mConsV (mVar 9) mNilA))) (mC (.str "argument")))) (mTru (mOp fNe (mCall f__law_word (mConsV (mVar 9) (mConsV (mVar 4) mNilA))) (mC (.str "argument"))))) (mRet (mC (.bool false))) mSkip)
  (mIf (mtOr (mTru (mOp fNe (mCall f__law_word (mConsV (mVar 9) (mConsV (mSl (mVar 4) mON (mOS (mC (.int 3)))) mNilA))) (mC (.str "module")))) (mTru (mOp fNe (mCall f__law_word (mConsV (mC (.none)) (mConsV (mVar 9) mNilA))) (mC (.str "module"))))) (mRet (mC (.bool false))) mSkip))
def m_law : MS := (mSeq (mSet 1 (mLst (mConsV (mCall f__law_numbers (mConsV (mVar 0) mNilA)) (mConsV (mC (.int 0)) mNilA))))
  (mSeq (mSet 2 (mCall f__law_kind (mConsR 1 mNilA)))
  (mSeq (mSet 3 (mOp fIx (mLst (mConsV (mC (.int 9)) (mConsV (mC (.int 9)) (mConsV (mC (.int 9)) (mConsV (mC (.int 41)) mNilA))))) (mOp fMod (mCall f__law_draw (mConsR 1 mNilA)) (mC (.int 4)))))
  (mSeq (mSet 4 (mCall f__law_module (mConsR 1 (mConsV (mVar 2) (mConsV (mCall f__law_dims (mConsR 1 (mConsV (mOp fIx (mVar 2) (mC (.int 2))) (mConsV (mOp fMod (mCall f__law_draw (mConsR 1 mNilA)) (mVar 3)) mNilA)))) mNilA)))))
  (mSeq (mSet 5 (mCall f__law_module (mConsR 1 (mConsV (mVar 2) (mConsV (mCall f__law_dims (mConsR 1 (mConsV (mOp fIx (mVar 2) (mC (.int 2))) (mConsV (mOp fMod (mCall f__law_draw (mConsR 1 mNilA)) (mVar 3)) mNilA)))) mNilA)))))
  (mSeq (mSet 6 (mUn fStr (mLst (mConsV (mVar 4) (mConsV (mVar 5) mNilA)))))
  (mSeq (mFor (iSeq (mLst (mConsV (mTup (mConsV (mVar 4) (mConsV (mVar 5) mNilA))) (mConsV (mTup (mConsV (mVar 5) (mConsV (mVar 4) mNilA))) (mConsV (mTup (mConsV (mVar 4) (mConsV (mVar 4) mNilA))) mNilA))))) (gTL (gsCons (gN 7) (gsCons (gN 8) gsNil))) L1_law)
  (mSeq (mIf (mtOr (mtNot (mTru (mCall f__law_equal (mConsV (mCall f_turned (mConsV (mVar 4) mNilA)) (mConsV (mCall f__law_turned (mConsV (mVar 4) mNilA)) mNilA))))) (mtNot (mTru (mCall f__law_equal (mConsV (mCall f_turned (mConsV (mCall f_turned (mConsV (mVar 4) mNilA)) mNilA)) (mConsV (mVar 4) mNilA)))))) (mRet (mC (.bool false))) mSkip)
  (mSeq (mIf (mtNot (mTru (mCall f__law_equal (mConsV (mCall f_turned (mConsV (mCall f_add (mConsV (mVar 4) (mConsV (mVar 5) mNilA))) mNilA)) (mConsV (mCall f_add (mConsV (mCall f_turned (mConsV (mVar 4) mNilA)) (mConsV (mCall f_turned (mConsV (mVar 5) mNilA)) mNilA))) mNilA))))) (mRet (mC (.bool false))) mSkip)
  (mSeq (mFor (iSeq (mCall f__law_unlike (mConsV (mVar 4) mNilA))) (gN 9) L2_law)
  (mSeq (mSet 10 (mOp fMod (mCall f__law_draw (mConsR 1 mNilA)) (mC (.int 126))))
  (mSeq (mSet 11 (mLst (mConsV (mTup (mConsV (mOp fIx (mVar 2) (mC (.int 0))) (mConsV (mTup mNilA) (mConsV (mTup (mConsV (mC (.int 0)) (mConsV (mVar 10) mNilA))) (mConsV (mTup mNilA) mNilA))))) (mConsV (mTup (mConsV (mOp fIx (mVar 2) (mC (.int 0))) (mConsV (mTup mNilA) (mConsV (mTup (mConsV (mOp fSub (mC (.int 125)) (mVar 10)) (mConsV (mC (.int 0)) mNilA))) (mConsV (mTup mNilA) mNilA))))) (mConsV (mTup (mConsV (mOp fIx (mVar 2) (mC (.int 0))) (mConsV (mTup mNilA) (mConsV (mTup (mConsV (mC (.int 1)) (mConsV (mOp fSub (mC (.int 125)) (mVar 10)) mNilA))) (mConsV (mTup mNilA) mNilA))))) mNilA)))))
  (mSeq (mIf (mTru (mOp fNe (mCall f__law_word (mConsV (mOp fIx (mVar 11) (mC (.int 0))) (mConsV (mOp fIx (mVar 11) (mC (.int 1))) mNilA))) (mC (.str "none")))) (mRet (mC (.bool false))) mSkip)
  (mSeq (mIf (mtAnd (mTru (mOp fGt (mVar 10) (mC (.int 0)))) (mTru (mOp fNe (mCall f__law_word (mConsV (mOp fIx (mVar 11) (mC (.int 0))) (mConsV (mOp fIx (mVar 11) (mC (.int 2))) mNilA))) (mC (.str "large"))))) (mRet (mC (.bool false))) mSkip)
  (mRet (mOp fEq (mUn fStr (mLst (mConsV (mVar 4) (mConsV (mVar 5) mNilA)))) (mVar 6)))))))))))))))))
def f_law : Pi.Env → Option Out := runF 12 m_law
structure G (K : PySem.W.Frag) (mg : Str → Option Value) (ad : Nat → Addr) : Prop where
  b_all : mg "all" = none
  b_bool : mg "bool" = none
  b_int : mg "int" = none
  b_isinstance : mg "isinstance" = none
  b_len : mg "len" = none
  b_list : mg "list" = none
  b_max : mg "max" = none
  b_min : mg "min" = none
  b_range : mg "range" = none
  b_str : mg "str" = none
  b_sum : mg "sum" = none
  b_tuple : mg "tuple" = none
  b_type : mg "type" = none
  b_zip : mg "zip" = none
  d_is_row : DefIn K mg "is_row" st_is_row
  d_transposed : DefIn K mg "transposed" st_transposed
  d_is_prime : DefIn K mg "is_prime" st_is_prime
  d_are_dims : DefIn K mg "are_dims" st_are_dims
  d_is_arrow : DefIn K mg "is_arrow" st_is_arrow
  d_are_of_one_kind : DefIn K mg "are_of_one_kind" st_are_of_one_kind
  d_size : DefIn K mg "size" st_size
  d_blocks : DefIn K mg "blocks" st_blocks
  d__law_mixed : DefIn K mg "_law_mixed" st__law_mixed
  d__law_sum : DefIn K mg "_law_sum" st__law_sum
  d__law_turned : DefIn K mg "_law_turned" st__law_turned
  d__law_unlike : DefIn K mg "_law_unlike" st__law_unlike
  d_is_matrix : DefIn K mg "is_matrix" st_is_matrix
  d_are_arrows : DefIn K mg "are_arrows" st_are_arrows
  d_check_kind : DefIn K mg "check_kind" st_check_kind
  d_turn : DefIn K mg "turn" st_turn
  d__law_numbers : DefIn K mg "_law_numbers" st__law_numbers
  d__law_draw : DefIn K mg "_law_draw" st__law_draw
  d_are_maps : DefIn K mg "are_maps" st_are_maps
  d__law_kind : DefIn K mg "_law_kind" st__law_kind
  d__law_dims : DefIn K mg "_law_dims" st__law_dims
  d__law_matrix : DefIn K mg "_law_matrix" st__law_matrix
  d_is_module : DefIn K mg "is_module" st_is_module
  d__law_module : DefIn K mg "_law_module" st__law_module
  d_check_module : DefIn K mg "check_module" st_check_module
  d_check_pair : DefIn K mg "check_pair" st_check_pair
  d_turned : DefIn K mg "turned" st_turned
  d_add : DefIn K mg "add" st_add
  d__law_word : DefIn K mg "_law_word" st__law_word
  d__law_equal : DefIn K mg "_law_equal" st__law_equal
  d__law_all_equal : DefIn K mg "_law_all_equal" st__law_all_equal
  d_law : DefIn K mg "law" st_law
  c_MOST_ARROWS : ConstIn K mg "MOST_ARROWS" c_MOST_ARROWS
  c_MOST_SIZE : ConstIn K mg "MOST_SIZE" c_MOST_SIZE
  c_MOST_SPACES : ConstIn K mg "MOST_SPACES" c_MOST_SPACES
  c_PRIMES : ConstIn K mg "PRIMES" c_PRIMES
  x_SeveralmapsError : mg "SeveralmapsError" = some (.ref (ad 0))
  x_BadModule : mg "BadModule" = some (.ref (ad 1))
  x_BadArgument : mg "BadArgument" = some (.ref (ad 2))
  x_TooLarge : mg "TooLarge" = some (.ref (ad 3))
  r_BadModule : PySem.W.excIn K (ad 1) [.type "ValueError", .type "Exception", .type "BaseException", .type "object"] "ValueError.__new__" = true
  k_BadModule : PySem.W.keepIn K (.ref (ad 1)) = true
  s_BadModule : PySem.W.subIn K (.ref (ad 1)) (.type "BaseException") = some true
  t_BadModule : PySem.W.typeIn K (.ref (ad 1)) = some (.type "type")
  e_BadModule : ExcC K (ad 1)
  q_BadModule_BadArgument : PySem.W.kitOne K (.ref (ad 1)) (.ref (ad 2)) = some false
  q_BadModule_BadModule : PySem.W.kitOne K (.ref (ad 1)) (.ref (ad 1)) = some true
  q_BadModule_TooLarge : PySem.W.kitOne K (.ref (ad 1)) (.ref (ad 3)) = some false
  m_BadModule_SeveralmapsError : PySem.W.exmOne K (.ref (ad 1)) (.ref (ad 0)) = some true
  r_BadArgument : PySem.W.excIn K (ad 2) [.type "ValueError", .type "Exception", .type "BaseException", .type "object"] "ValueError.__new__" = true
  k_BadArgument : PySem.W.keepIn K (.ref (ad 2)) = true
  s_BadArgument : PySem.W.subIn K (.ref (ad 2)) (.type "BaseException") = some true
  t_BadArgument : PySem.W.typeIn K (.ref (ad 2)) = some (.type "type")
  e_BadArgument : ExcC K (ad 2)
  q_BadArgument_BadArgument : PySem.W.kitOne K (.ref (ad 2)) (.ref (ad 2)) = some true
  q_BadArgument_BadModule : PySem.W.kitOne K (.ref (ad 2)) (.ref (ad 1)) = some false
  q_BadArgument_TooLarge : PySem.W.kitOne K (.ref (ad 2)) (.ref (ad 3)) = some false
  m_BadArgument_SeveralmapsError : PySem.W.exmOne K (.ref (ad 2)) (.ref (ad 0)) = some true
  r_TooLarge : PySem.W.excIn K (ad 3) [.type "ValueError", .type "Exception", .type "BaseException", .type "object"] "ValueError.__new__" = true
  k_TooLarge : PySem.W.keepIn K (.ref (ad 3)) = true
  s_TooLarge : PySem.W.subIn K (.ref (ad 3)) (.type "BaseException") = some true
  t_TooLarge : PySem.W.typeIn K (.ref (ad 3)) = some (.type "type")
  e_TooLarge : ExcC K (ad 3)
  q_TooLarge_BadArgument : PySem.W.kitOne K (.ref (ad 3)) (.ref (ad 2)) = some false
  q_TooLarge_BadModule : PySem.W.kitOne K (.ref (ad 3)) (.ref (ad 1)) = some false
  q_TooLarge_TooLarge : PySem.W.kitOne K (.ref (ad 3)) (.ref (ad 3)) = some true
  m_TooLarge_SeveralmapsError : PySem.W.exmOne K (.ref (ad 3)) (.ref (ad 0)) = some true
section
variable {P : Program} {w : World} {K : PySem.W.Frag} {mg : Str → Option Value} {base : Heap} {ad : Nat → Addr}
theorem nrm_cases (c : Nat) : nrm c = 1 ∨ nrm c = 2 ∨ nrm c = 3 := by
  unfold nrm
  (repeat' split) <;> simp
theorem exc_at (g : G K mg ad) : ∀ c, ExcC K (ad (nrm c)) := fun c => by
  show ExcC K (ad (nrm c))
  rcases nrm_cases c with h | h | h
  · rw [h]; exact g.e_BadModule
  · rw [h]; exact g.e_BadArgument
  · rw [h]; exact g.e_TooLarge

theorem kit_BadArgument (g : G K mg ad) : ∀ c, PySem.W.kitOne K (.ref (ad (nrm c))) (.ref (ad 2)) = some (isa 2 c) := fun c => by
  show PySem.W.kitOne K (.ref (ad (nrm c))) (.ref (ad 2)) = some (nrm c == 2 || 2 == 0)
  rcases nrm_cases c with h | h | h
  · rw [h]; exact g.q_BadModule_BadArgument
  · rw [h]; exact g.q_BadArgument_BadArgument
  · rw [h]; exact g.q_TooLarge_BadArgument

theorem kit_BadModule (g : G K mg ad) : ∀ c, PySem.W.kitOne K (.ref (ad (nrm c))) (.ref (ad 1)) = some (isa 1 c) := fun c => by
  show PySem.W.kitOne K (.ref (ad (nrm c))) (.ref (ad 1)) = some (nrm c == 1 || 1 == 0)
  rcases nrm_cases c with h | h | h
  · rw [h]; exact g.q_BadModule_BadModule
  · rw [h]; exact g.q_BadArgument_BadModule
  · rw [h]; exact g.q_TooLarge_BadModule

theorem kit_TooLarge (g : G K mg ad) : ∀ c, PySem.W.kitOne K (.ref (ad (nrm c))) (.ref (ad 3)) = some (isa 3 c) := fun c => by
  show PySem.W.kitOne K (.ref (ad (nrm c))) (.ref (ad 3)) = some (nrm c == 3 || 3 == 0)
  rcases nrm_cases c with h | h | h
  · rw [h]; exact g.q_BadModule_TooLarge
  · rw [h]; exact g.q_BadArgument_TooLarge
  · rw [h]; exact g.q_TooLarge_TooLarge

theorem exm_SeveralmapsError (g : G K mg ad) : ∀ c, PySem.W.exmOne K (clsOf ad c) (.ref (ad 0)) = some (isa 0 c) := fun c => by
  show PySem.W.exmOne K (.ref (ad (nrm c))) (.ref (ad 0)) = some (nrm c == 0 || 0 == 0)
  rcases nrm_cases c with h | h | h
  · rw [h]; exact g.m_BadModule_SeveralmapsError
  · rw [h]; exact g.m_BadArgument_SeveralmapsError
  · rw [h]; exact g.m_TooLarge_SeveralmapsError

theorem sc_is_row : FnScope ["thing", "columns", "p", "number"] ["thing", "columns", "p"] (defScope st_is_row) := ⟨rfl, rfl, rfl, by decide +kernel, rfl, by decide +kernel, by decide +kernel⟩
theorem b_is_row (g : G K mg ad) (f : Addr) (cd : Value) (A : Around) (outer : List PySem.Env) (s : Shared) (H : Hp) (E : XK) (B : Nat → Option Addr) (z : (Zf P w K mg base (clsOf ad) 0 ["thing", "columns", "p", "number"] "is_row" (defScope st_is_row) f cd A outer s H E B).Ok) : SSs (Zf P w K mg base (clsOf ad) 0 ["thing", "columns", "p", "number"] "is_row" (defScope st_is_row) f cd A outer s H E B) (defBody st_is_row) (m_is_row) :=
  (x_cons (x_if (t_w (w_or (t_tyNe "tuple" z mt_tuple gl_k g.b_type gl_k g.b_tuple (s_var 0) (hv := bb_tuple)) (w_one_or (t_ne z (s_len gl_k g.b_len (s_var 0)) (s_var 1))))) (x_one (x_ret s_bl)) x_nil)
  (x_cons (x_if (t_val (s_lc (own := [("number", 3)]) z (i_seq (s_var 0)) (blkOk_by (by kernel_rfl)) rfl (fun _ _ _ _ _ => (g_name 3 (.blk z _ _ _ _ _))) (fun _ _ _ _ _ => (ts_one (t_tyNe "int" (.blk z _ _ _ _ _) mt_int gl_k g.b_type gl_k g.b_int (s_var 3) (hv := bb_int)))) (fun _ _ _ _ _ => (s_var 3)))) (x_one (x_ret s_bl)) x_nil)
  (x_one (x_ret (s_or (s_eq z (s_var 1) s_int) (s_one (s_and (s_ge (s_min z gl_k g.b_min (s_var 0)) s_int) (s_one (s_lt (s_max z gl_k g.b_max (s_var 0)) (s_var 2))))))))))
theorem ok_is_row (g : G K mg ad) : FnA P w K mg base (clsOf ad) 1 "is_row" 3 f_is_row :=
  fnA_of g.d_is_row sc_is_row (fun _ _ _ _ _ _ us hl => match us, hl with | [_, _, _], _ => rfl) (b_is_row g)
theorem sc_transposed : FnScope ["matrix", "columns", "at", "row"] ["matrix", "columns"] (defScope st_transposed) := ⟨rfl, rfl, rfl, by decide +kernel, rfl, by decide +kernel, by decide +kernel⟩
theorem b_transposed (g : G K mg ad) (f : Addr) (cd : Value) (A : Around) (outer : List PySem.Env) (s : Shared) (H : Hp) (E : XK) (B : Nat → Option Addr) (z : (Zf P w K mg base (clsOf ad) 0 ["matrix", "columns", "at", "row"] "transposed" (defScope st_transposed) f cd A outer s H E B).Ok) : SSs (Zf P w K mg base (clsOf ad) 0 ["matrix", "columns", "at", "row"] "transposed" (defScope st_transposed) f cd A outer s H E B) (defBody st_transposed) (m_transposed) :=
  (x_one (x_ret (s_tuple gl_k g.b_tuple (s_lc (own := [("at", 2)]) z (i_rng1 gl_k g.b_range (s_var 1)) (blkOk_by (by kernel_rfl)) rfl (fun _ _ _ _ _ => (g_name 2 (.blk z _ _ _ _ _))) (fun _ _ _ _ _ => ts_nil) (fun _ _ _ _ _ => (s_tuple gl_k g.b_tuple (s_lc (own := [("row", 3)]) (.blk z _ _ _ _ _) (i_seq (s_var 0)) (blkOk_by (by kernel_rfl)) rfl (fun _ _ _ _ _ => (g_name 3 (.blk (.blk z _ _ _ _ _) _ _ _ _ _))) (fun _ _ _ _ _ => ts_nil) (fun _ _ _ _ _ => (s_at (s_var 3) (s_var 2))))))))))
theorem ok_transposed (g : G K mg ad) : FnA P w K mg base (clsOf ad) 1 "transposed" 2 f_transposed :=
  fnA_of g.d_transposed sc_transposed (fun _ _ _ _ _ _ us hl => match us, hl with | [_, _], _ => rfl) (b_transposed g)
theorem sc_is_prime : FnScope ["thing"] ["thing"] (defScope st_is_prime) := ⟨rfl, rfl, rfl, by decide +kernel, rfl, by decide +kernel, by decide +kernel⟩
theorem b_is_prime (g : G K mg ad) (f : Addr) (cd : Value) (A : Around) (outer : List PySem.Env) (s : Shared) (H : Hp) (E : XK) (B : Nat → Option Addr) (z : (Zf P w K mg base (clsOf ad) 0 ["thing"] "is_prime" (defScope st_is_prime) f cd A outer s H E B).Ok) : SSs (Zf P w K mg base (clsOf ad) 0 ["thing"] "is_prime" (defScope st_is_prime) f cd A outer s H E B) (defBody st_is_prime) (m_is_prime) :=
  (x_one (x_ret (s_and (s_tyEq "int" z mt_int gl_k g.b_type gl_k g.b_int (s_var 0) (hv := bb_int)) (s_one (s_in (s_var 0) (s_const g.c_PRIMES gl_k))))))
theorem ok_is_prime (g : G K mg ad) : FnA P w K mg base (clsOf ad) 1 "is_prime" 1 f_is_prime :=
  fnA_of g.d_is_prime sc_is_prime (fun _ _ _ _ _ _ us hl => match us, hl with | [_], _ => rfl) (b_is_prime g)
theorem sc_are_dims : FnScope ["thing", "dim"] ["thing"] (defScope st_are_dims) := ⟨rfl, rfl, rfl, by decide +kernel, rfl, by decide +kernel, by decide +kernel⟩
theorem b_are_dims (g : G K mg ad) (f : Addr) (cd : Value) (A : Around) (outer : List PySem.Env) (s : Shared) (H : Hp) (E : XK) (B : Nat → Option Addr) (z : (Zf P w K mg base (clsOf ad) 0 ["thing", "dim"] "are_dims" (defScope st_are_dims) f cd A outer s H E B).Ok) : SSs (Zf P w K mg base (clsOf ad) 0 ["thing", "dim"] "are_dims" (defScope st_are_dims) f cd A outer s H E B) (defBody st_are_dims) (m_are_dims) :=
  (x_cons (x_if (t_w (w_or (t_tyNe "tuple" z mt_tuple gl_k g.b_type gl_k g.b_tuple (s_var 0) (hv := bb_tuple)) (w_one_or (t_not (t_le_le s_int (s_len gl_k g.b_len (s_var 0)) (s_const g.c_MOST_SPACES gl_k)))))) (x_one (x_ret s_bl)) x_nil)
  (x_one (x_ret (s_and (s_not (s_lc (own := [("dim", 1)]) z (i_seq (s_var 0)) (blkOk_by (by kernel_rfl)) rfl (fun _ _ _ _ _ => (g_name 1 (.blk z _ _ _ _ _))) (fun _ _ _ _ _ => (ts_one (t_w (w_or (t_tyNe "int" (.blk z _ _ _ _ _) mt_int gl_k g.b_type gl_k g.b_int (s_var 1) (hv := bb_int)) (w_one_or (t_lt (s_var 1) s_int)))))) (fun _ _ _ _ _ => (s_var 1)))) (s_one (s_le (s_sum z gl_k g.b_sum (s_var 0)) (s_const g.c_MOST_SIZE gl_k)))))))
theorem ok_are_dims (g : G K mg ad) : FnA P w K mg base (clsOf ad) 1 "are_dims" 1 f_are_dims :=
  fnA_of g.d_are_dims sc_are_dims (fun _ _ _ _ _ _ us hl => match us, hl with | [_], _ => rfl) (b_are_dims g)
theorem sc_is_arrow : FnScope ["thing", "spaces", "space"] ["thing", "spaces"] (defScope st_is_arrow) := ⟨rfl, rfl, rfl, by decide +kernel, rfl, by decide +kernel, by decide +kernel⟩
theorem b_is_arrow (g : G K mg ad) (f : Addr) (cd : Value) (A : Around) (outer : List PySem.Env) (s : Shared) (H : Hp) (E : XK) (B : Nat → Option Addr) (z : (Zf P w K mg base (clsOf ad) 0 ["thing", "spaces", "space"] "is_arrow" (defScope st_is_arrow) f cd A outer s H E B).Ok) : SSs (Zf P w K mg base (clsOf ad) 0 ["thing", "spaces", "space"] "is_arrow" (defScope st_is_arrow) f cd A outer s H E B) (defBody st_is_arrow) (m_is_arrow) :=
  (x_cons (x_if (t_w (w_or (t_tyNe "tuple" z mt_tuple gl_k g.b_type gl_k g.b_tuple (s_var 0) (hv := bb_tuple)) (w_one_or (t_ne z (s_len gl_k g.b_len (s_var 0)) s_int)))) (x_one (x_ret s_bl)) x_nil)
  (x_one (x_ret (s_not (s_lc (own := [("space", 2)]) z (i_seq (s_var 0)) (blkOk_by (by kernel_rfl)) rfl (fun _ _ _ _ _ => (g_name 2 (.blk z _ _ _ _ _))) (fun _ _ _ _ _ => (ts_one (t_w (w_or (t_tyNe "int" (.blk z _ _ _ _ _) mt_int gl_k g.b_type gl_k g.b_int (s_var 2) (hv := bb_int)) (w_one_or (t_not (t_le_lt s_int (s_var 2) (s_var 1)))))))) (fun _ _ _ _ _ => (s_var 2)))))))
theorem ok_is_arrow (g : G K mg ad) : FnA P w K mg base (clsOf ad) 1 "is_arrow" 2 f_is_arrow :=
  fnA_of g.d_is_arrow sc_is_arrow (fun _ _ _ _ _ _ us hl => match us, hl with | [_, _], _ => rfl) (b_is_arrow g)
theorem sc_are_of_one_kind : FnScope ["module", "other"] ["module", "other"] (defScope st_are_of_one_kind) := ⟨rfl, rfl, rfl, by decide +kernel, rfl, by decide +kernel, by decide +kernel⟩
theorem b_are_of_one_kind (g : G K mg ad) (f : Addr) (cd : Value) (A : Around) (outer : List PySem.Env) (s : Shared) (H : Hp) (E : XK) (B : Nat → Option Addr) (z : (Zf P w K mg base (clsOf ad) 0 ["module", "other"] "are_of_one_kind" (defScope st_are_of_one_kind) f cd A outer s H E B).Ok) : SSs (Zf P w K mg base (clsOf ad) 0 ["module", "other"] "are_of_one_kind" (defScope st_are_of_one_kind) f cd A outer s H E B) (defBody st_are_of_one_kind) (m_are_of_one_kind) :=
  (x_one (x_ret (s_and (s_eq z (s_sl (s_var 0) o_none (o_some s_int)) (s_sl (s_var 1) o_none (o_some s_int))) (s_one (s_eq z (s_len gl_k g.b_len (s_at (s_var 0) s_int)) (s_len gl_k g.b_len (s_at (s_var 1) s_int)))))))
theorem ok_are_of_one_kind (g : G K mg ad) : FnA P w K mg base (clsOf ad) 1 "are_of_one_kind" 2 f_are_of_one_kind :=
  fnA_of g.d_are_of_one_kind sc_are_of_one_kind (fun _ _ _ _ _ _ us hl => match us, hl with | [_, _], _ => rfl) (b_are_of_one_kind g)
theorem sc_size : FnScope ["module"] ["module"] (defScope st_size) := ⟨rfl, rfl, rfl, by decide +kernel, rfl, by decide +kernel, by decide +kernel⟩
theorem b_size (g : G K mg ad) (f : Addr) (cd : Value) (A : Around) (outer : List PySem.Env) (s : Shared) (H : Hp) (E : XK) (B : Nat → Option Addr) (z : (Zf P w K mg base (clsOf ad) 0 ["module"] "size" (defScope st_size) f cd A outer s H E B).Ok) : SSs (Zf P w K mg base (clsOf ad) 0 ["module"] "size" (defScope st_size) f cd A outer s H E B) (defBody st_size) (m_size) :=
  (x_one (x_ret (s_sum z gl_k g.b_sum (s_at (s_var 0) s_int))))
theorem ok_size (g : G K mg ad) : FnA P w K mg base (clsOf ad) 1 "size" 1 f_size :=
  fnA_of g.d_size sc_size (fun _ _ _ _ _ _ us hl => match us, hl with | [_], _ => rfl) (b_size g)
theorem sc_blocks : FnScope ["first", "second", "columns", "others", "upper", "lower", "row"] ["first", "second", "columns", "others"] (defScope st_blocks) := ⟨rfl, rfl, rfl, by decide +kernel, rfl, by decide +kernel, by decide +kernel⟩
theorem b_blocks (g : G K mg ad) (f : Addr) (cd : Value) (A : Around) (outer : List PySem.Env) (s : Shared) (H : Hp) (E : XK) (B : Nat → Option Addr) (z : (Zf P w K mg base (clsOf ad) 0 ["first", "second", "columns", "others", "upper", "lower", "row"] "blocks" (defScope st_blocks) f cd A outer s H E B).Ok) : SSs (Zf P w K mg base (clsOf ad) 0 ["first", "second", "columns", "others", "upper", "lower", "row"] "blocks" (defScope st_blocks) f cd A outer s H E B) (defBody st_blocks) (m_blocks) :=
  (x_cons (x_setC (own := [("row", 6)]) z 4 (i_seq (s_var 0)) (blkOk_by (by kernel_rfl)) rfl (fun _ _ _ _ _ => (g_name 6 (.blk z _ _ _ _ _))) (fun _ _ _ _ _ => ts_nil) (fun _ _ _ _ _ => (s_add (s_var 6) (s_mul (s_tup (a_val s_int a_nil)) (s_var 3)))) (sw_true rfl rfl rfl (by decide +kernel)))
  (x_cons (x_setC (own := [("row", 6)]) z 5 (i_seq (s_var 1)) (blkOk_by (by kernel_rfl)) rfl (fun _ _ _ _ _ => (g_name 6 (.blk z _ _ _ _ _))) (fun _ _ _ _ _ => ts_nil) (fun _ _ _ _ _ => (s_add (s_mul (s_tup (a_val s_int a_nil)) (s_var 2)) (s_var 6))) (sw_true rfl rfl rfl (by decide +kernel)))
  (x_one (x_ret (s_tuple gl_k g.b_tuple (s_add (s_var 4) (s_var 5)))))))
theorem ok_blocks (g : G K mg ad) : FnA P w K mg base (clsOf ad) 1 "blocks" 4 f_blocks :=
  fnA_of g.d_blocks sc_blocks (fun _ _ _ _ _ _ us hl => match us, hl with | [_, _, _, _], _ => rfl) (b_blocks g)
theorem sc__law_mixed : FnScope ["number", "k", "step"] ["number", "k"] (defScope st__law_mixed) := ⟨rfl, rfl, rfl, by decide +kernel, rfl, by decide +kernel, by decide +kernel⟩
theorem b__law_mixed (g : G K mg ad) (f : Addr) (cd : Value) (A : Around) (outer : List PySem.Env) (s : Shared) (H : Hp) (E : XK) (B : Nat → Option Addr) (z : (Zf P w K mg base (clsOf ad) 0 ["number", "k", "step"] "_law_mixed" (defScope st__law_mixed) f cd A outer s H E B).Ok) : SSs (Zf P w K mg base (clsOf ad) 0 ["number", "k", "step"] "_law_mixed" (defScope st__law_mixed) f cd A outer s H E B) (defBody st__law_mixed) (m__law_mixed) :=
  (x_cons (x_set z 2 (s_mod (s_add (s_add (s_mul (s_var 0) s_int) (s_mul (s_var 1) s_int)) s_int) s_int))
  (x_one (x_ret (s_mod (s_add (s_mul (s_var 2) (s_add (s_div (s_var 2) s_int) s_int)) (s_var 1)) s_int))))
theorem ok__law_mixed (g : G K mg ad) : FnA P w K mg base (clsOf ad) 1 "_law_mixed" 2 f__law_mixed :=
  fnA_of g.d__law_mixed sc__law_mixed (fun _ _ _ _ _ _ us hl => match us, hl with | [_, _], _ => rfl) (b__law_mixed g)
theorem sc__law_sum : FnScope ["module", "other", "p", "arrows", "dims", "maps", "found", "k", "s", "t", "rows", "row", "v"] ["module", "other"] (defScope st__law_sum) := ⟨rfl, rfl, rfl, by decide +kernel, rfl, by decide +kernel, by decide +kernel⟩
theorem b__law_sum (g : G K mg ad) (f : Addr) (cd : Value) (A : Around) (outer : List PySem.Env) (s : Shared) (H : Hp) (E : XK) (B : Nat → Option Addr) (z : (Zf P w K mg base (clsOf ad) 0 ["module", "other", "p", "arrows", "dims", "maps", "found", "k", "s", "t", "rows", "row", "v"] "_law_sum" (defScope st__law_sum) f cd A outer s H E B).Ok) : SSs (Zf P w K mg base (clsOf ad) 0 ["module", "other", "p", "arrows", "dims", "maps", "found", "k", "s", "t", "rows", "row", "v"] "_law_sum" (defScope st__law_sum) f cd A outer s H E B) (defBody st__law_sum) (m__law_sum) :=
  (x_cons (x_unp (g_seq z (gs_cons (g_name 2 z) (gs_cons (g_name 3 z) (gs_cons (g_name 4 z) (gs_cons (g_name 5 z) gs_nil)))) (gn_cons (gn_cons (gn_cons (gn_cons gn_nil))))) (s_var 0))
  (x_cons (x_set z 6 (s_lst a_nil))
  (x_cons (x_for z (i_rng1 gl_k g.b_range (s_len gl_k g.b_len (s_var 3))) (g_name 7 z) (x_cons (x_unp (g_seq z (gs_cons (g_name 8 z) (gs_cons (g_name 9 z) gs_nil)) (gn_cons (gn_cons gn_nil))) (s_at (s_var 3) (s_var 7)))
  (x_cons (x_setC (own := [("row", 11)]) z 10 (i_seq (s_at (s_var 5) (s_var 7))) (blkOk_by (by kernel_rfl)) rfl (fun _ _ _ _ _ => (g_name 11 (.blk z _ _ _ _ _))) (fun _ _ _ _ _ => ts_nil) (fun _ _ _ _ _ => (s_add (s_var 11) (s_mul (s_tup (a_val s_int a_nil)) (s_at (s_at (s_var 1) s_int) (s_var 8))))) (sw_true rfl rfl rfl (by decide +kernel)))
  (x_cons (x_expr (s_ext 10 (s_lc (own := [("row", 11)]) z (i_seq (s_at (s_at (s_var 1) s_int) (s_var 7))) (blkOk_by (by kernel_rfl)) rfl (fun _ _ _ _ _ => (g_name 11 (.blk z _ _ _ _ _))) (fun _ _ _ _ _ => ts_nil) (fun _ _ _ _ _ => (s_add (s_mul (s_tup (a_val s_int a_nil)) (s_at (s_var 4) (s_var 8))) (s_var 11))))))
  (x_one (x_expr (s_app 6 (s_tuple gl_k g.b_tuple (s_var 10)))))))))
  (x_one (x_ret (s_tup (a_val (s_var 2) (a_val (s_var 3) (a_val (s_tuple gl_k g.b_tuple (s_lc (own := [("v", 12)]) z (i_rng1 gl_k g.b_range (s_len gl_k g.b_len (s_var 4))) (blkOk_by (by kernel_rfl)) rfl (fun _ _ _ _ _ => (g_name 12 (.blk z _ _ _ _ _))) (fun _ _ _ _ _ => ts_nil) (fun _ _ _ _ _ => (s_add (s_at (s_var 4) (s_var 12)) (s_at (s_at (s_var 1) s_int) (s_var 12)))))) (a_val (s_tuple gl_k g.b_tuple (s_var 6)) a_nil))))))))))
theorem ok__law_sum (g : G K mg ad) : FnA P w K mg base (clsOf ad) 1 "_law_sum" 2 f__law_sum :=
  fnA_of g.d__law_sum sc__law_sum (fun _ _ _ _ _ _ us hl => match us, hl with | [_, _], _ => rfl) (b__law_sum g)
theorem sc__law_turned : FnScope ["module", "p", "arrows", "dims", "maps", "found", "k", "s", "t", "j", "i"] ["module"] (defScope st__law_turned) := ⟨rfl, rfl, rfl, by decide +kernel, rfl, by decide +kernel, by decide +kernel⟩
theorem b__law_turned (g : G K mg ad) (f : Addr) (cd : Value) (A : Around) (outer : List PySem.Env) (s : Shared) (H : Hp) (E : XK) (B : Nat → Option Addr) (z : (Zf P w K mg base (clsOf ad) 0 ["module", "p", "arrows", "dims", "maps", "found", "k", "s", "t", "j", "i"] "_law_turned" (defScope st__law_turned) f cd A outer s H E B).Ok) : SSs (Zf P w K mg base (clsOf ad) 0 ["module", "p", "arrows", "dims", "maps", "found", "k", "s", "t", "j", "i"] "_law_turned" (defScope st__law_turned) f cd A outer s H E B) (defBody st__law_turned) (m__law_turned) :=
  (x_cons (x_unp (g_seq z (gs_cons (g_name 1 z) (gs_cons (g_name 2 z) (gs_cons (g_name 3 z) (gs_cons (g_name 4 z) gs_nil)))) (gn_cons (gn_cons (gn_cons (gn_cons gn_nil))))) (s_var 0))
  (x_cons (x_set z 5 (s_lst a_nil))
  (x_cons (x_for z (i_rng1 gl_k g.b_range (s_len gl_k g.b_len (s_var 2))) (g_name 6 z) (x_cons (x_unp (g_seq z (gs_cons (g_name 7 z) (gs_cons (g_name 8 z) gs_nil)) (gn_cons (gn_cons gn_nil))) (s_at (s_var 2) (s_var 6)))
  (x_one (x_expr (s_app 5 (s_tuple gl_k g.b_tuple (s_lc (own := [("j", 9)]) z (i_rng1 gl_k g.b_range (s_at (s_var 3) (s_var 7))) (blkOk_by (by kernel_rfl)) rfl (fun _ _ _ _ _ => (g_name 9 (.blk z _ _ _ _ _))) (fun _ _ _ _ _ => ts_nil) (fun _ _ _ _ _ => (s_tuple gl_k g.b_tuple (s_lc (own := [("i", 10)]) (.blk z _ _ _ _ _) (i_rng1 gl_k g.b_range (s_at (s_var 3) (s_var 8))) (blkOk_by (by kernel_rfl)) rfl (fun _ _ _ _ _ => (g_name 10 (.blk (.blk z _ _ _ _ _) _ _ _ _ _))) (fun _ _ _ _ _ => ts_nil) (fun _ _ _ _ _ => (s_at (s_at (s_at (s_var 4) (s_var 6)) (s_var 10)) (s_var 9)))))))))))))
  (x_one (x_ret (s_tup (a_val (s_var 1) (a_val (s_tuple gl_k g.b_tuple (s_lc (own := [("s", 7), ("t", 8)]) z (i_seq (s_var 2)) (blkOk_by (by kernel_rfl)) rfl (fun _ _ _ _ _ => (g_seq (.blk z _ _ _ _ _) (gs_cons (g_name 7 (.blk z _ _ _ _ _)) (gs_cons (g_name 8 (.blk z _ _ _ _ _)) gs_nil)) (gn_cons (gn_cons gn_nil)))) (fun _ _ _ _ _ => ts_nil) (fun _ _ _ _ _ => (s_tup (a_val (s_var 8) (a_val (s_var 7) a_nil)))))) (a_val (s_var 3) (a_val (s_tuple gl_k g.b_tuple (s_var 5)) a_nil))))))))))
theorem ok__law_turned (g : G K mg ad) : FnA P w K mg base (clsOf ad) 1 "_law_turned" 1 f__law_turned :=
  fnA_of g.d__law_turned sc__law_turned (fun _ _ _ _ _ _ us hl => match us, hl with | [_], _ => rfl) (b__law_turned g)
theorem sc__law_unlike : FnScope ["module", "p", "arrows", "dims", "maps", "rows", "row", "one", "x"] ["module"] (defScope st__law_unlike) := ⟨rfl, rfl, rfl, by decide +kernel, rfl, by decide +kernel, by decide +kernel⟩
theorem b__law_unlike (g : G K mg ad) (f : Addr) (cd : Value) (A : Around) (outer : List PySem.Env) (s : Shared) (H : Hp) (E : XK) (B : Nat → Option Addr) (z : (Zf P w K mg base (clsOf ad) 0 ["module", "p", "arrows", "dims", "maps", "rows", "row", "one", "x"] "_law_unlike" (defScope st__law_unlike) f cd A outer s H E B).Ok) : SSs (Zf P w K mg base (clsOf ad) 0 ["module", "p", "arrows", "dims", "maps", "rows", "row", "one", "x"] "_law_unlike" (defScope st__law_unlike) f cd A outer s H E B) (defBody st__law_unlike) (m__law_unlike) :=
  (x_cons (x_unp (g_seq z (gs_cons (g_name 1 z) (gs_cons (g_name 2 z) (gs_cons (g_name 3 z) (gs_cons (g_name 4 z) gs_nil)))) (gn_cons (gn_cons (gn_cons (gn_cons gn_nil))))) (s_var 0))
  (x_cons (x_set z 5 (s_lst (a_val (s_tup (a_val (s_ife (t_gt (s_var 1) s_int) s_int s_int) (a_val (s_var 2) (a_val (s_var 3) (a_val (s_tuple gl_k g.b_tuple (s_lc (own := [("one", 7)]) z (i_seq (s_var 4)) (blkOk_by (by kernel_rfl)) rfl (fun _ _ _ _ _ => (g_name 7 (.blk z _ _ _ _ _))) (fun _ _ _ _ _ => ts_nil) (fun _ _ _ _ _ => (s_tuple gl_k g.b_tuple (s_lc (own := [("row", 6)]) (.blk z _ _ _ _ _) (i_seq (s_var 7)) (blkOk_by (by kernel_rfl)) rfl (fun _ _ _ _ _ => (g_name 6 (.blk (.blk z _ _ _ _ _) _ _ _ _ _))) (fun _ _ _ _ _ => ts_nil) (fun _ _ _ _ _ => (s_tuple gl_k g.b_tuple (s_lc (own := [("x", 8)]) (.blk (.blk z _ _ _ _ _) _ _ _ _ _) (i_seq (s_var 6)) (blkOk_by (by kernel_rfl)) rfl (fun _ _ _ _ _ => (g_name 8 (.blk (.blk (.blk z _ _ _ _ _) _ _ _ _ _) _ _ _ _ _))) (fun _ _ _ _ _ => ts_nil) (fun _ _ _ _ _ => s_int))))))))) a_nil))))) a_nil)))
  (x_cons (x_expr (s_app 5 (s_tup (a_val (s_var 1) (a_val (s_add (s_var 2) (s_tup (a_val (s_tup (a_val s_int (a_val s_int a_nil))) a_nil))) (a_val (s_var 3) (a_val (s_add (s_var 4) (s_tup (a_val (s_mul (s_tup (a_val (s_mul (s_tup (a_val s_int a_nil)) (s_at (s_var 3) s_int)) a_nil)) (s_at (s_var 3) s_int)) a_nil))) a_nil)))))))
  (x_cons (x_expr (s_app 5 (s_tup (a_val (s_var 1) (a_val (s_var 2) (a_val (s_add (s_var 3) (s_tup (a_val s_int a_nil))) (a_val (s_var 4) a_nil)))))))
  (x_one (x_ret (s_lc (own := [("row", 6)]) z (i_seq (s_var 5)) (blkOk_by (by kernel_rfl)) rfl (fun _ _ _ _ _ => (g_name 6 (.blk z _ _ _ _ _))) (fun _ _ _ _ _ => (ts_one (t_w (w_and (t_lt (s_len gl_k g.b_len (s_at (s_var 6) s_int)) s_int) (w_one_and (t_lt (s_len gl_k g.b_len (s_at (s_var 6) s_int)) s_int)))))) (fun _ _ _ _ _ => (s_var 6)))))))))
theorem ok__law_unlike (g : G K mg ad) : FnA P w K mg base (clsOf ad) 1 "_law_unlike" 1 f__law_unlike :=
  fnA_of g.d__law_unlike sc__law_unlike (fun _ _ _ _ _ _ us hl => match us, hl with | [_], _ => rfl) (b__law_unlike g)
theorem sc_is_matrix : FnScope ["thing", "rows", "columns", "p", "row"] ["thing", "rows", "columns", "p"] (defScope st_is_matrix) := ⟨rfl, rfl, rfl, by decide +kernel, rfl, by decide +kernel, by decide +kernel⟩
theorem b_is_matrix (g : G K mg ad) (f : Addr) (cd : Value) (A : Around) (outer : List PySem.Env) (s : Shared) (H : Hp) (E : XK) (B : Nat → Option Addr) (z : (Zf P w K mg base (clsOf ad) 1 ["thing", "rows", "columns", "p", "row"] "is_matrix" (defScope st_is_matrix) f cd A outer s H E B).Ok) : SSs (Zf P w K mg base (clsOf ad) 1 ["thing", "rows", "columns", "p", "row"] "is_matrix" (defScope st_is_matrix) f cd A outer s H E B) (defBody st_is_matrix) (m_is_matrix) :=
  (x_cons (x_if (t_w (w_or (t_tyNe "tuple" z mt_tuple gl_k g.b_type gl_k g.b_tuple (s_var 0) (hv := bb_tuple)) (w_one_or (t_ne z (s_len gl_k g.b_len (s_var 0)) (s_var 1))))) (x_one (x_ret s_bl)) x_nil)
  (x_one (x_ret (s_all z gl_k g.b_all (s_lc (own := [("row", 4)]) z (i_seq (s_var 0)) (blkOk_by (by kernel_rfl)) rfl (fun _ _ _ _ _ => (g_name 4 (.blk z _ _ _ _ _))) (fun _ _ _ _ _ => ts_nil) (fun _ _ _ _ _ => (s_callL (.blk z _ _ _ _ _) ((ok_is_row g).mono (k := 1) (by decide)).at gl_k (a_val (s_var 4) (a_val (s_var 2) (a_val (s_var 3) a_nil))) (ln_val (ln_val (ln_val ln_nil))))))))))
theorem ok_is_matrix (g : G K mg ad) : FnA P w K mg base (clsOf ad) 2 "is_matrix" 4 f_is_matrix :=
  fnA_of g.d_is_matrix sc_is_matrix (fun _ _ _ _ _ _ us hl => match us, hl with | [_, _, _, _], _ => rfl) (b_is_matrix g)
theorem sc_are_arrows : FnScope ["thing", "spaces", "arrow"] ["thing", "spaces"] (defScope st_are_arrows) := ⟨rfl, rfl, rfl, by decide +kernel, rfl, by decide +kernel, by decide +kernel⟩
theorem b_are_arrows (g : G K mg ad) (f : Addr) (cd : Value) (A : Around) (outer : List PySem.Env) (s : Shared) (H : Hp) (E : XK) (B : Nat → Option Addr) (z : (Zf P w K mg base (clsOf ad) 1 ["thing", "spaces", "arrow"] "are_arrows" (defScope st_are_arrows) f cd A outer s H E B).Ok) : SSs (Zf P w K mg base (clsOf ad) 1 ["thing", "spaces", "arrow"] "are_arrows" (defScope st_are_arrows) f cd A outer s H E B) (defBody st_are_arrows) (m_are_arrows) :=
  (x_cons (x_if (t_w (w_or (t_tyNe "tuple" z mt_tuple gl_k g.b_type gl_k g.b_tuple (s_var 0) (hv := bb_tuple)) (w_one_or (t_gt (s_len gl_k g.b_len (s_var 0)) (s_const g.c_MOST_ARROWS gl_k))))) (x_one (x_ret s_bl)) x_nil)
  (x_one (x_ret (s_all z gl_k g.b_all (s_lc (own := [("arrow", 2)]) z (i_seq (s_var 0)) (blkOk_by (by kernel_rfl)) rfl (fun _ _ _ _ _ => (g_name 2 (.blk z _ _ _ _ _))) (fun _ _ _ _ _ => ts_nil) (fun _ _ _ _ _ => (s_callL (.blk z _ _ _ _ _) ((ok_is_arrow g).mono (k := 1) (by decide)).at gl_k (a_val (s_var 2) (a_val (s_var 1) a_nil)) (ln_val (ln_val ln_nil)))))))))
theorem ok_are_arrows (g : G K mg ad) : FnA P w K mg base (clsOf ad) 2 "are_arrows" 2 f_are_arrows :=
  fnA_of g.d_are_arrows sc_are_arrows (fun _ _ _ _ _ _ us hl => match us, hl with | [_, _], _ => rfl) (b_are_arrows g)
theorem sc_check_kind : FnScope ["module", "other"] ["module", "other"] (defScope st_check_kind) := ⟨rfl, rfl, rfl, by decide +kernel, rfl, by decide +kernel, by decide +kernel⟩
theorem b_check_kind (g : G K mg ad) (f : Addr) (cd : Value) (A : Around) (outer : List PySem.Env) (s : Shared) (H : Hp) (E : XK) (B : Nat → Option Addr) (z : (Zf P w K mg base (clsOf ad) 1 ["module", "other"] "check_kind" (defScope st_check_kind) f cd A outer s H E B).Ok) : SSs (Zf P w K mg base (clsOf ad) 1 ["module", "other"] "check_kind" (defScope st_check_kind) f cd A outer s H E B) (defBody st_check_kind) (m_check_kind) :=
  (x_one (x_if (t_not (t_val (s_callL z ((ok_are_of_one_kind g).mono (k := 1) (by decide)).at gl_k (a_val (s_var 0) (a_val (s_var 1) a_nil)) (ln_val (ln_val ln_nil))))) (x_one (x_raise z PySem.F.excBase_ValueError g.r_BadArgument g.x_BadArgument g.k_BadArgument g.s_BadArgument g.t_BadArgument rfl gl_k)) x_nil))
theorem ok_check_kind (g : G K mg ad) : FnA P w K mg base (clsOf ad) 2 "check_kind" 2 f_check_kind :=
  fnA_of g.d_check_kind sc_check_kind (fun _ _ _ _ _ _ us hl => match us, hl with | [_, _], _ => rfl) (b_check_kind g)
theorem sc_turn : FnScope ["module", "p", "arrows", "dims", "maps", "back", "matrix", "s", "_", "t"] ["module"] (defScope st_turn) := ⟨rfl, rfl, rfl, by decide +kernel, rfl, by decide +kernel, by decide +kernel⟩
theorem b_turn (g : G K mg ad) (f : Addr) (cd : Value) (A : Around) (outer : List PySem.Env) (s : Shared) (H : Hp) (E : XK) (B : Nat → Option Addr) (z : (Zf P w K mg base (clsOf ad) 1 ["module", "p", "arrows", "dims", "maps", "back", "matrix", "s", "_", "t"] "turn" (defScope st_turn) f cd A outer s H E B).Ok) : SSs (Zf P w K mg base (clsOf ad) 1 ["module", "p", "arrows", "dims", "maps", "back", "matrix", "s", "_", "t"] "turn" (defScope st_turn) f cd A outer s H E B) (defBody st_turn) (m_turn) :=
  (x_cons (x_unp (g_seq z (gs_cons (g_name 1 z) (gs_cons (g_name 2 z) (gs_cons (g_name 3 z) (gs_cons (g_name 4 z) gs_nil)))) (gn_cons (gn_cons (gn_cons (gn_cons gn_nil))))) (s_var 0))
  (x_cons (x_setC (own := [("matrix", 6), ("s", 7), ("_", 8)]) z 5 (i_zip gl_k g.b_zip (a_val (s_var 4) (a_val (s_var 2) a_nil))) (blkOk_by (by kernel_rfl)) rfl (fun _ _ _ _ _ => (g_seq (.blk z _ _ _ _ _) (gs_cons (g_name 6 (.blk z _ _ _ _ _)) (gs_cons (g_seq (.blk z _ _ _ _ _) (gs_cons (g_name 7 (.blk z _ _ _ _ _)) (gs_cons (g_name 8 (.blk z _ _ _ _ _)) gs_nil)) (gn_cons (gn_cons gn_nil))) gs_nil)) (gn_cons (gn_cons gn_nil)))) (fun _ _ _ _ _ => ts_nil) (fun _ _ _ _ _ => (s_callL (.blk z _ _ _ _ _) ((ok_transposed g).mono (k := 1) (by decide)).at gl_k (a_val (s_var 6) (a_val (s_at (s_var 3) (s_var 7)) a_nil)) (ln_val (ln_val ln_nil)))) (sw_true rfl rfl rfl (by decide +kernel)))
  (x_one (x_ret (s_tup (a_val (s_var 1) (a_val (s_tuple gl_k g.b_tuple (s_lc (own := [("s", 7), ("t", 9)]) z (i_seq (s_var 2)) (blkOk_by (by kernel_rfl)) rfl (fun _ _ _ _ _ => (g_seq (.blk z _ _ _ _ _) (gs_cons (g_name 7 (.blk z _ _ _ _ _)) (gs_cons (g_name 9 (.blk z _ _ _ _ _)) gs_nil)) (gn_cons (gn_cons gn_nil)))) (fun _ _ _ _ _ => ts_nil) (fun _ _ _ _ _ => (s_tup (a_val (s_var 9) (a_val (s_var 7) a_nil)))))) (a_val (s_var 3) (a_val (s_tuple gl_k g.b_tuple (s_var 5)) a_nil)))))))))
theorem ok_turn (g : G K mg ad) : FnA P w K mg base (clsOf ad) 2 "turn" 1 f_turn :=
  fnA_of g.d_turn sc_turn (fun _ _ _ _ _ _ us hl => match us, hl with | [_], _ => rfl) (b_turn g)
theorem sc__law_numbers : FnScope ["script", "numbers", "cell", "rest", "k"] ["script"] (defScope st__law_numbers) := ⟨rfl, rfl, rfl, by decide +kernel, rfl, by decide +kernel, by decide +kernel⟩
theorem b__law_numbers (g : G K mg ad) (f : Addr) (cd : Value) (A : Around) (outer : List PySem.Env) (s : Shared) (H : Hp) (E : XK) (B : Nat → Option Addr) (z : (Zf P w K mg base (clsOf ad) 1 ["script", "numbers", "cell", "rest", "k"] "_law_numbers" (defScope st__law_numbers) f cd A outer s H E B).Ok) : SSs (Zf P w K mg base (clsOf ad) 1 ["script", "numbers", "cell", "rest", "k"] "_law_numbers" (defScope st__law_numbers) f cd A outer s H E B) (defBody st__law_numbers) (m__law_numbers) :=
  (x_cons (x_set z 1 (s_lst a_nil))
  (x_cons (x_for z (i_seq (s_var 0)) (g_name 2 z) (x_one (x_if (t_ge (s_var 2) (s_pow s_int s_int)) (x_cons (x_set z 3 (s_var 2))
  (x_one (x_for z (i_rng1 gl_k g.b_range s_int) (g_name 4 z) (x_one (x_if (t_gt (s_var 3) s_int) (x_cons (x_expr (s_app 1 (s_mod (s_var 3) s_int)))
  (x_one (x_set z 3 (s_div (s_var 3) s_int)))) x_nil))))) (x_cons (x_expr (s_app 1 (s_mod (s_var 2) s_int)))
  (x_one (x_for z (i_rng1 gl_k g.b_range s_int) (g_name 4 z) (x_one (x_expr (s_app 1 (s_mod (s_callL z ((ok__law_mixed g).mono (k := 1) (by decide)).at gl_k (a_val (s_callL z ((ok__law_mixed g).mono (k := 1) (by decide)).at gl_k (a_val (s_mod (s_var 2) s_int) (a_val (s_var 4) a_nil)) (ln_val (ln_val ln_nil))) (a_val (s_add (s_var 4) s_int) a_nil)) (ln_val (ln_val ln_nil))) s_int))))))))))
  (x_one (x_ret (s_var 1)))))
theorem ok__law_numbers (g : G K mg ad) : FnA P w K mg base (clsOf ad) 2 "_law_numbers" 1 f__law_numbers :=
  fnA_of g.d__law_numbers sc__law_numbers (fun _ _ _ _ _ _ us hl => match us, hl with | [_], _ => rfl) (b__law_numbers g)
theorem sc__law_draw : FnScope ["draws", "at", "first"] ["draws"] (defScope st__law_draw) := ⟨rfl, rfl, rfl, by decide +kernel, rfl, by decide +kernel, by decide +kernel⟩
theorem b__law_draw (g : G K mg ad) (f : Addr) (cd : Value) (A : Around) (outer : List PySem.Env) (s : Shared) (H : Hp) (E : XK) (B : Nat → Option Addr) (z : (Zf P w K mg base (clsOf ad) 1 ["draws", "at", "first"] "_law_draw" (defScope st__law_draw) f cd A outer s H E B).Ok) : SSs (Zf P w K mg base (clsOf ad) 1 ["draws", "at", "first"] "_law_draw" (defScope st__law_draw) f cd A outer s H E B) (defBody st__law_draw) (m__law_draw) :=
  (x_cons (x_set z 1 (s_at (s_var 0) s_int))
  (x_cons (x_putL 0 s_int (s_add (s_var 1) s_int))
  (x_cons (x_if (t_lt (s_var 1) (s_len gl_k g.b_len (s_at (s_var 0) s_int))) (x_one (x_ret (s_at (s_at (s_var 0) s_int) (s_var 1)))) x_nil)
  (x_cons (x_set z 2 (s_add s_int (s_var 1)))
  (x_cons (x_if (t_gt (s_len gl_k g.b_len (s_at (s_var 0) s_int)) s_int) (x_one (x_set z 2 (s_add (s_var 2) (s_mul s_int (s_at (s_at (s_var 0) s_int) s_int))))) x_nil)
  (x_one (x_ret (s_mod (s_callL z ((ok__law_mixed g).mono (k := 1) (by decide)).at gl_k (a_val (s_callL z ((ok__law_mixed g).mono (k := 1) (by decide)).at gl_k (a_val (s_var 2) (a_val (s_var 1) a_nil)) (ln_val (ln_val ln_nil))) (a_val s_int a_nil)) (ln_val (ln_val ln_nil))) s_int))))))))
theorem ok__law_draw (g : G K mg ad) : FnA P w K mg base (clsOf ad) 2 "_law_draw" 1 f__law_draw :=
  fnA_of g.d__law_draw sc__law_draw (fun _ _ _ _ _ _ us hl => match us, hl with | [_], _ => rfl) (b__law_draw g)
theorem sc_are_maps : FnScope ["thing", "p", "arrows", "dims", "matrix", "s", "t"] ["thing", "p", "arrows", "dims"] (defScope st_are_maps) := ⟨rfl, rfl, rfl, by decide +kernel, rfl, by decide +kernel, by decide +kernel⟩
theorem b_are_maps (g : G K mg ad) (f : Addr) (cd : Value) (A : Around) (outer : List PySem.Env) (s : Shared) (H : Hp) (E : XK) (B : Nat → Option Addr) (z : (Zf P w K mg base (clsOf ad) 2 ["thing", "p", "arrows", "dims", "matrix", "s", "t"] "are_maps" (defScope st_are_maps) f cd A outer s H E B).Ok) : SSs (Zf P w K mg base (clsOf ad) 2 ["thing", "p", "arrows", "dims", "matrix", "s", "t"] "are_maps" (defScope st_are_maps) f cd A outer s H E B) (defBody st_are_maps) (m_are_maps) :=
  (x_cons (x_if (t_w (w_or (t_tyNe "tuple" z mt_tuple gl_k g.b_type gl_k g.b_tuple (s_var 0) (hv := bb_tuple)) (w_one_or (t_ne z (s_len gl_k g.b_len (s_var 0)) (s_len gl_k g.b_len (s_var 2)))))) (x_one (x_ret s_bl)) x_nil)
  (x_one (x_ret (s_all z gl_k g.b_all (s_lc (own := [("matrix", 4), ("s", 5), ("t", 6)]) z (i_zip gl_k g.b_zip (a_val (s_var 0) (a_val (s_var 2) a_nil))) (blkOk_by (by kernel_rfl)) rfl (fun _ _ _ _ _ => (g_seq (.blk z _ _ _ _ _) (gs_cons (g_name 4 (.blk z _ _ _ _ _)) (gs_cons (g_seq (.blk z _ _ _ _ _) (gs_cons (g_name 5 (.blk z _ _ _ _ _)) (gs_cons (g_name 6 (.blk z _ _ _ _ _)) gs_nil)) (gn_cons (gn_cons gn_nil))) gs_nil)) (gn_cons (gn_cons gn_nil)))) (fun _ _ _ _ _ => ts_nil) (fun _ _ _ _ _ => (s_callL (.blk z _ _ _ _ _) ((ok_is_matrix g).mono (k := 2) (by decide)).at gl_k (a_val (s_var 4) (a_val (s_at (s_var 3) (s_var 6)) (a_val (s_at (s_var 3) (s_var 5)) (a_val (s_var 1) a_nil)))) (ln_val (ln_val (ln_val (ln_val ln_nil)))))))))))
theorem ok_are_maps (g : G K mg ad) : FnA P w K mg base (clsOf ad) 3 "are_maps" 4 f_are_maps :=
  fnA_of g.d_are_maps sc_are_maps (fun _ _ _ _ _ _ us hl => match us, hl with | [_, _, _, _], _ => rfl) (b_are_maps g)
theorem sc__law_kind : FnScope ["draws", "shapes", "p", "pick", "arrows", "spaces", "k", "arrow"] ["draws"] (defScope st__law_kind) := ⟨rfl, rfl, rfl, by decide +kernel, rfl, by decide +kernel, by decide +kernel⟩
theorem b__law_kind (g : G K mg ad) (f : Addr) (cd : Value) (A : Around) (outer : List PySem.Env) (s : Shared) (H : Hp) (E : XK) (B : Nat → Option Addr) (z : (Zf P w K mg base (clsOf ad) 2 ["draws", "shapes", "p", "pick", "arrows", "spaces", "k", "arrow"] "_law_kind" (defScope st__law_kind) f cd A outer s H E B).Ok) : SSs (Zf P w K mg base (clsOf ad) 2 ["draws", "shapes", "p", "pick", "arrows", "spaces", "k", "arrow"] "_law_kind" (defScope st__law_kind) f cd A outer s H E B) (defBody st__law_kind) (m__law_kind) :=
  (x_cons (x_set z 1 (s_lst (a_val (s_tup (a_val (s_tup (a_val s_int (a_val s_int a_nil))) (a_val (s_tup (a_val s_int (a_val s_int a_nil))) a_nil))) (a_val (s_tup (a_val (s_tup (a_val s_int (a_val s_int a_nil))) (a_val (s_tup (a_val s_int (a_val s_int a_nil))) a_nil))) (a_val (s_tup (a_val (s_tup (a_val s_int (a_val s_int a_nil))) a_nil)) (a_val (s_tup (a_val (s_tup (a_val s_int (a_val s_int a_nil))) (a_val (s_tup (a_val s_int (a_val s_int a_nil))) a_nil))) (a_val (s_tup (a_val (s_tup (a_val s_int (a_val s_int a_nil))) (a_val (s_tup (a_val s_int (a_val s_int a_nil))) a_nil))) (a_val (s_tup (a_val (s_tup (a_val s_int (a_val s_int a_nil))) (a_val (s_tup (a_val s_int (a_val s_int a_nil))) a_nil))) (a_val (s_tup (a_val (s_tup (a_val s_int (a_val s_int a_nil))) (a_val (s_tup (a_val s_int (a_val s_int a_nil))) (a_val (s_tup (a_val s_int (a_val s_int a_nil))) a_nil)))) (a_val (s_tup (a_val (s_tup (a_val s_int (a_val s_int a_nil))) (a_val (s_tup (a_val s_int (a_val s_int a_nil))) (a_val (s_tup (a_val s_int (a_val s_int a_nil))) a_nil)))) (a_val (s_tup (a_val (s_tup (a_val s_int (a_val s_int a_nil))) (a_val (s_tup (a_val s_int (a_val s_int a_nil))) (a_val (s_tup (a_val s_int (a_val s_int a_nil))) a_nil)))) (a_val (s_tup (a_val (s_tup (a_val s_int (a_val s_int a_nil))) a_nil)) (a_val (s_tup a_nil) a_nil)))))))))))))
  (x_cons (x_set z 2 (s_at (s_lst (a_val s_int (a_val s_int (a_val s_int (a_val s_int (a_val s_int (a_val s_int (a_val s_int (a_val s_int a_nil))))))))) (s_mod (s_callL z ((ok__law_draw g).mono (k := 2) (by decide)).at gl_k (a_ref 0 a_nil) (ln_ref ln_nil)) s_int)))
  (x_cons (x_set z 3 (s_mod (s_callL z ((ok__law_draw g).mono (k := 2) (by decide)).at gl_k (a_ref 0 a_nil) (ln_ref ln_nil)) s_int))
  (x_cons (x_if (t_lt (s_var 3) s_int) (x_cons (x_set z 4 (s_at (s_var 1) (s_var 3)))
  (x_one (x_ret (s_lst (a_val (s_var 2) (a_val (s_var 4) (a_val (s_add s_int (s_max z gl_k g.b_max (s_add (s_lst (a_val s_int a_nil)) (s_lc (own := [("arrow", 7)]) z (i_seq (s_var 4)) (blkOk_by (by kernel_rfl)) rfl (fun _ _ _ _ _ => (g_name 7 (.blk z _ _ _ _ _))) (fun _ _ _ _ _ => ts_nil) (fun _ _ _ _ _ => (s_max (.blk z _ _ _ _ _) gl_k g.b_max (s_var 7))))))) a_nil))))))) x_nil)
  (x_cons (x_set z 5 (s_add s_int (s_mod (s_callL z ((ok__law_draw g).mono (k := 2) (by decide)).at gl_k (a_ref 0 a_nil) (ln_ref ln_nil)) s_int)))
  (x_cons (x_setC (own := [("k", 6)]) z 4 (i_rng1 gl_k g.b_range (s_mod (s_callL z ((ok__law_draw g).mono (k := 2) (by decide)).at gl_k (a_ref 0 a_nil) (ln_ref ln_nil)) s_int)) (blkOk_by (by kernel_rfl)) rfl (fun _ _ _ _ _ => (g_name 6 (.blk z _ _ _ _ _))) (fun _ _ _ _ _ => ts_nil) (fun _ _ _ _ _ => (s_tup (a_val (s_mod (s_callL (.blk z _ _ _ _ _) ((ok__law_draw g).mono (k := 2) (by decide)).at gl_k (a_ref 0 a_nil) (ln_ref ln_nil)) (s_var 5)) (a_val (s_mod (s_callL (.blk z _ _ _ _ _) ((ok__law_draw g).mono (k := 2) (by decide)).at gl_k (a_ref 0 a_nil) (ln_ref ln_nil)) (s_var 5)) a_nil)))) (sw_true rfl rfl rfl (by decide +kernel)))
  (x_one (x_ret (s_lst (a_val (s_var 2) (a_val (s_tuple gl_k g.b_tuple (s_var 4)) (a_val (s_var 5) a_nil))))))))))))
theorem ok__law_kind (g : G K mg ad) : FnA P w K mg base (clsOf ad) 3 "_law_kind" 1 f__law_kind :=
  fnA_of g.d__law_kind sc__law_kind (fun _ _ _ _ _ _ us hl => match us, hl with | [_], _ => rfl) (b__law_kind g)
theorem sc__law_dims : FnScope ["draws", "spaces", "most", "dims", "k", "v"] ["draws", "spaces", "most"] (defScope st__law_dims) := ⟨rfl, rfl, rfl, by decide +kernel, rfl, by decide +kernel, by decide +kernel⟩
theorem b__law_dims (g : G K mg ad) (f : Addr) (cd : Value) (A : Around) (outer : List PySem.Env) (s : Shared) (H : Hp) (E : XK) (B : Nat → Option Addr) (z : (Zf P w K mg base (clsOf ad) 2 ["draws", "spaces", "most", "dims", "k", "v"] "_law_dims" (defScope st__law_dims) f cd A outer s H E B).Ok) : SSs (Zf P w K mg base (clsOf ad) 2 ["draws", "spaces", "most", "dims", "k", "v"] "_law_dims" (defScope st__law_dims) f cd A outer s H E B) (defBody st__law_dims) (m__law_dims) :=
  (x_cons (x_setC (own := [("v", 5)]) z 3 (i_rng1 gl_k g.b_range (s_var 1)) (blkOk_by (by kernel_rfl)) rfl (fun _ _ _ _ _ => (g_name 5 (.blk z _ _ _ _ _))) (fun _ _ _ _ _ => ts_nil) (fun _ _ _ _ _ => s_int) (sw_true rfl rfl rfl (by decide +kernel)))
  (x_cons (x_for z (i_rng1 gl_k g.b_range (s_var 2)) (g_name 4 z) (x_cons (x_set z 5 (s_mod (s_callL z ((ok__law_draw g).mono (k := 2) (by decide)).at gl_k (a_ref 0 a_nil) (ln_ref ln_nil)) (s_add (s_var 1) s_int)))
  (x_one (x_if (t_lt (s_var 5) (s_var 1)) (x_one (x_putL 3 (s_var 5) (s_add (s_at (s_var 3) (s_var 5)) s_int))) x_nil))))
  (x_one (x_ret (s_tuple gl_k g.b_tuple (s_var 3))))))
theorem ok__law_dims (g : G K mg ad) : FnA P w K mg base (clsOf ad) 3 "_law_dims" 3 f__law_dims :=
  fnA_of g.d__law_dims sc__law_dims (fun _ _ _ _ _ _ us hl => match us, hl with | [_, _, _], _ => rfl) (b__law_dims g)
theorem sc__law_matrix : FnScope ["draws", "p", "rows", "columns", "kind", "found", "i", "row", "j"] ["draws", "p", "rows", "columns"] (defScope st__law_matrix) := ⟨rfl, rfl, rfl, by decide +kernel, rfl, by decide +kernel, by decide +kernel⟩
theorem b__law_matrix (g : G K mg ad) (f : Addr) (cd : Value) (A : Around) (outer : List PySem.Env) (s : Shared) (H : Hp) (E : XK) (B : Nat → Option Addr) (z : (Zf P w K mg base (clsOf ad) 2 ["draws", "p", "rows", "columns", "kind", "found", "i", "row", "j"] "_law_matrix" (defScope st__law_matrix) f cd A outer s H E B).Ok) : SSs (Zf P w K mg base (clsOf ad) 2 ["draws", "p", "rows", "columns", "kind", "found", "i", "row", "j"] "_law_matrix" (defScope st__law_matrix) f cd A outer s H E B) (defBody st__law_matrix) (m__law_matrix) :=
  (x_cons (x_set z 4 (s_mod (s_callL z ((ok__law_draw g).mono (k := 2) (by decide)).at gl_k (a_ref 0 a_nil) (ln_ref ln_nil)) s_int))
  (x_cons (x_set z 5 (s_lst a_nil))
  (x_cons (x_for z (i_rng1 gl_k g.b_range (s_var 2)) (g_name 6 z) (x_cons (x_set z 7 (s_lst a_nil))
  (x_cons (x_for z (i_rng1 gl_k g.b_range (s_var 3)) (g_name 8 z) (x_one (x_if (t_eq z (s_var 4) s_int) (x_one (x_expr (s_app 7 (s_toInt gl_k g.b_int (s_eq z (s_var 6) (s_var 8)))))) (x_one (x_if (t_eq z (s_var 4) s_int) (x_one (x_expr (s_app 7 (s_mod (s_callL z ((ok__law_draw g).mono (k := 2) (by decide)).at gl_k (a_ref 0 a_nil) (ln_ref ln_nil)) (s_var 1))))) (x_one (x_expr (s_app 7 (s_at (s_lst (a_val s_int (a_val s_int (a_val s_int (a_val (s_mod (s_callL z ((ok__law_draw g).mono (k := 2) (by decide)).at gl_k (a_ref 0 a_nil) (ln_ref ln_nil)) (s_var 1)) a_nil))))) (s_mod (s_callL z ((ok__law_draw g).mono (k := 2) (by decide)).at gl_k (a_ref 0 a_nil) (ln_ref ln_nil)) s_int))))))))))
  (x_one (x_expr (s_app 5 (s_tuple gl_k g.b_tuple (s_var 7))))))))
  (x_one (x_ret (s_tuple gl_k g.b_tuple (s_var 5)))))))
theorem ok__law_matrix (g : G K mg ad) : FnA P w K mg base (clsOf ad) 3 "_law_matrix" 4 f__law_matrix :=
  fnA_of g.d__law_matrix sc__law_matrix (fun _ _ _ _ _ _ us hl => match us, hl with | [_, _, _, _], _ => rfl) (b__law_matrix g)
theorem sc_is_module : FnScope ["thing", "p", "arrows", "dims", "maps"] ["thing"] (defScope st_is_module) := ⟨rfl, rfl, rfl, by decide +kernel, rfl, by decide +kernel, by decide +kernel⟩
theorem b_is_module (g : G K mg ad) (f : Addr) (cd : Value) (A : Around) (outer : List PySem.Env) (s : Shared) (H : Hp) (E : XK) (B : Nat → Option Addr) (z : (Zf P w K mg base (clsOf ad) 3 ["thing", "p", "arrows", "dims", "maps"] "is_module" (defScope st_is_module) f cd A outer s H E B).Ok) : SSs (Zf P w K mg base (clsOf ad) 3 ["thing", "p", "arrows", "dims", "maps"] "is_module" (defScope st_is_module) f cd A outer s H E B) (defBody st_is_module) (m_is_module) :=
  (x_cons (x_if (t_w (w_or (t_tyNe "tuple" z mt_tuple gl_k g.b_type gl_k g.b_tuple (s_var 0) (hv := bb_tuple)) (w_one_or (t_ne z (s_len gl_k g.b_len (s_var 0)) s_int)))) (x_one (x_ret s_bl)) x_nil)
  (x_cons (x_unp (g_seq z (gs_cons (g_name 1 z) (gs_cons (g_name 2 z) (gs_cons (g_name 3 z) (gs_cons (g_name 4 z) gs_nil)))) (gn_cons (gn_cons (gn_cons (gn_cons gn_nil))))) (s_var 0))
  (x_cons (x_if (t_w (w_or (t_not (t_val (s_callL z ((ok_is_prime g).mono (k := 3) (by decide)).at gl_k (a_val (s_var 1) a_nil) (ln_val ln_nil)))) (w_or (t_not (t_val (s_callL z ((ok_are_dims g).mono (k := 3) (by decide)).at gl_k (a_val (s_var 3) a_nil) (ln_val ln_nil)))) (w_one_or (t_not (t_val (s_callL z ((ok_are_arrows g).mono (k := 3) (by decide)).at gl_k (a_val (s_var 2) (a_val (s_len gl_k g.b_len (s_var 3)) a_nil)) (ln_val (ln_val ln_nil))))))))) (x_one (x_ret s_bl)) x_nil)
  (x_one (x_ret (s_callL z ((ok_are_maps g).mono (k := 3) (by decide)).at gl_k (a_val (s_var 4) (a_val (s_var 1) (a_val (s_var 2) (a_val (s_var 3) a_nil)))) (ln_val (ln_val (ln_val (ln_val ln_nil))))))))))
theorem ok_is_module (g : G K mg ad) : FnA P w K mg base (clsOf ad) 4 "is_module" 1 f_is_module :=
  fnA_of g.d_is_module sc_is_module (fun _ _ _ _ _ _ us hl => match us, hl with | [_], _ => rfl) (b_is_module g)
theorem sc__law_module : FnScope ["draws", "kind", "dims", "p", "arrows", "spaces", "s", "t"] ["draws", "kind", "dims"] (defScope st__law_module) := ⟨rfl, rfl, rfl, by decide +kernel, rfl, by decide +kernel, by decide +kernel⟩
theorem b__law_module (g : G K mg ad) (f : Addr) (cd : Value) (A : Around) (outer : List PySem.Env) (s : Shared) (H : Hp) (E : XK) (B : Nat → Option Addr) (z : (Zf P w K mg base (clsOf ad) 3 ["draws", "kind", "dims", "p", "arrows", "spaces", "s", "t"] "_law_module" (defScope st__law_module) f cd A outer s H E B).Ok) : SSs (Zf P w K mg base (clsOf ad) 3 ["draws", "kind", "dims", "p", "arrows", "spaces", "s", "t"] "_law_module" (defScope st__law_module) f cd A outer s H E B) (defBody st__law_module) (m__law_module) :=
  (x_cons (x_unp (g_seq z (gs_cons (g_name 3 z) (gs_cons (g_name 4 z) (gs_cons (g_name 5 z) gs_nil))) (gn_cons (gn_cons (gn_cons gn_nil)))) (s_var 1))
  (x_one (x_ret (s_tup (a_val (s_var 3) (a_val (s_var 4) (a_val (s_var 2) (a_val (s_tuple gl_k g.b_tuple (s_lc (own := [("s", 6), ("t", 7)]) z (i_seq (s_var 4)) (blkOk_by (by kernel_rfl)) rfl (fun _ _ _ _ _ => (g_seq (.blk z _ _ _ _ _) (gs_cons (g_name 6 (.blk z _ _ _ _ _)) (gs_cons (g_name 7 (.blk z _ _ _ _ _)) gs_nil)) (gn_cons (gn_cons gn_nil)))) (fun _ _ _ _ _ => ts_nil) (fun _ _ _ _ _ => (s_callL (.blk z _ _ _ _ _) ((ok__law_matrix g).mono (k := 3) (by decide)).at gl_k (a_ref 0 (a_val (s_var 3) (a_val (s_at (s_var 2) (s_var 7)) (a_val (s_at (s_var 2) (s_var 6)) a_nil)))) (ln_ref (ln_val (ln_val (ln_val ln_nil)))))))) a_nil))))))))
theorem ok__law_module (g : G K mg ad) : FnA P w K mg base (clsOf ad) 4 "_law_module" 3 f__law_module :=
  fnA_of g.d__law_module sc__law_module (fun _ _ _ _ _ _ us hl => match us, hl with | [_, _, _], _ => rfl) (b__law_module g)
theorem sc_check_module : FnScope ["module"] ["module"] (defScope st_check_module) := ⟨rfl, rfl, rfl, by decide +kernel, rfl, by decide +kernel, by decide +kernel⟩
theorem b_check_module (g : G K mg ad) (f : Addr) (cd : Value) (A : Around) (outer : List PySem.Env) (s : Shared) (H : Hp) (E : XK) (B : Nat → Option Addr) (z : (Zf P w K mg base (clsOf ad) 4 ["module"] "check_module" (defScope st_check_module) f cd A outer s H E B).Ok) : SSs (Zf P w K mg base (clsOf ad) 4 ["module"] "check_module" (defScope st_check_module) f cd A outer s H E B) (defBody st_check_module) (m_check_module) :=
  (x_one (x_if (t_not (t_val (s_callL z ((ok_is_module g).mono (k := 4) (by decide)).at gl_k (a_val (s_var 0) a_nil) (ln_val ln_nil)))) (x_one (x_raise z PySem.F.excBase_ValueError g.r_BadModule g.x_BadModule g.k_BadModule g.s_BadModule g.t_BadModule rfl gl_k)) x_nil))
theorem ok_check_module (g : G K mg ad) : FnA P w K mg base (clsOf ad) 5 "check_module" 1 f_check_module :=
  fnA_of g.d_check_module sc_check_module (fun _ _ _ _ _ _ us hl => match us, hl with | [_], _ => rfl) (b_check_module g)
theorem sc_check_pair : FnScope ["module", "other"] ["module", "other"] (defScope st_check_pair) := ⟨rfl, rfl, rfl, by decide +kernel, rfl, by decide +kernel, by decide +kernel⟩
theorem b_check_pair (g : G K mg ad) (f : Addr) (cd : Value) (A : Around) (outer : List PySem.Env) (s : Shared) (H : Hp) (E : XK) (B : Nat → Option Addr) (z : (Zf P w K mg base (clsOf ad) 5 ["module", "other"] "check_pair" (defScope st_check_pair) f cd A outer s H E B).Ok) : SSs (Zf P w K mg base (clsOf ad) 5 ["module", "other"] "check_pair" (defScope st_check_pair) f cd A outer s H E B) (defBody st_check_pair) (m_check_pair) :=
  (x_cons (x_expr (s_callL z ((ok_check_module g).mono (k := 5) (by decide)).at gl_k (a_val (s_var 0) a_nil) (ln_val ln_nil)))
  (x_cons (x_expr (s_callL z ((ok_check_module g).mono (k := 5) (by decide)).at gl_k (a_val (s_var 1) a_nil) (ln_val ln_nil)))
  (x_one (x_expr (s_callL z ((ok_check_kind g).mono (k := 5) (by decide)).at gl_k (a_val (s_var 0) (a_val (s_var 1) a_nil)) (ln_val (ln_val ln_nil)))))))
theorem ok_check_pair (g : G K mg ad) : FnA P w K mg base (clsOf ad) 6 "check_pair" 2 f_check_pair :=
  fnA_of g.d_check_pair sc_check_pair (fun _ _ _ _ _ _ us hl => match us, hl with | [_, _], _ => rfl) (b_check_pair g)
theorem sc_turned : FnScope ["module"] ["module"] (defScope st_turned) := ⟨rfl, rfl, rfl, by decide +kernel, rfl, by decide +kernel, by decide +kernel⟩
theorem b_turned (g : G K mg ad) (f : Addr) (cd : Value) (A : Around) (outer : List PySem.Env) (s : Shared) (H : Hp) (E : XK) (B : Nat → Option Addr) (z : (Zf P w K mg base (clsOf ad) 5 ["module"] "turned" (defScope st_turned) f cd A outer s H E B).Ok) : SSs (Zf P w K mg base (clsOf ad) 5 ["module"] "turned" (defScope st_turned) f cd A outer s H E B) (defBody st_turned) (m_turned) :=
  (x_cons (x_expr (s_callL z ((ok_check_module g).mono (k := 5) (by decide)).at gl_k (a_val (s_var 0) a_nil) (ln_val ln_nil)))
  (x_one (x_ret (s_callL z ((ok_turn g).mono (k := 5) (by decide)).at gl_k (a_val (s_var 0) a_nil) (ln_val ln_nil)))))
theorem ok_turned (g : G K mg ad) : FnA P w K mg base (clsOf ad) 6 "turned" 1 f_turned :=
  fnA_of g.d_turned sc_turned (fun _ _ _ _ _ _ us hl => match us, hl with | [_], _ => rfl) (b_turned g)
theorem sc_add : FnScope ["module", "other", "p", "arrows", "dims", "maps", "others", "added", "first", "second", "s", "_", "one", "two"] ["module", "other"] (defScope st_add) := ⟨rfl, rfl, rfl, by decide +kernel, rfl, by decide +kernel, by decide +kernel⟩
theorem b_add (g : G K mg ad) (f : Addr) (cd : Value) (A : Around) (outer : List PySem.Env) (s : Shared) (H : Hp) (E : XK) (B : Nat → Option Addr) (z : (Zf P w K mg base (clsOf ad) 6 ["module", "other", "p", "arrows", "dims", "maps", "others", "added", "first", "second", "s", "_", "one", "two"] "add" (defScope st_add) f cd A outer s H E B).Ok) : SSs (Zf P w K mg base (clsOf ad) 6 ["module", "other", "p", "arrows", "dims", "maps", "others", "added", "first", "second", "s", "_", "one", "two"] "add" (defScope st_add) f cd A outer s H E B) (defBody st_add) (m_add) :=
  (x_cons (x_expr (s_callL z ((ok_check_pair g).mono (k := 6) (by decide)).at gl_k (a_val (s_var 0) (a_val (s_var 1) a_nil)) (ln_val (ln_val ln_nil))))
  (x_cons (x_if (t_gt (s_add (s_callL z ((ok_size g).mono (k := 6) (by decide)).at gl_k (a_val (s_var 0) a_nil) (ln_val ln_nil)) (s_callL z ((ok_size g).mono (k := 6) (by decide)).at gl_k (a_val (s_var 1) a_nil) (ln_val ln_nil))) (s_const g.c_MOST_SIZE gl_k)) (x_one (x_raise z PySem.F.excBase_ValueError g.r_TooLarge g.x_TooLarge g.k_TooLarge g.s_TooLarge g.t_TooLarge rfl gl_k)) x_nil)
  (x_cons (x_unp (g_seq z (gs_cons (g_name 2 z) (gs_cons (g_name 3 z) (gs_cons (g_name 4 z) (gs_cons (g_name 5 z) gs_nil)))) (gn_cons (gn_cons (gn_cons (gn_cons gn_nil))))) (s_var 0))
  (x_cons (x_set z 6 (s_at (s_var 1) s_int))
  (x_cons (x_setC (own := [("s", 10), ("_", 11), ("first", 8), ("second", 9)]) z 7 (i_zip3 gl_k g.b_zip (a_val (s_var 3) (a_val (s_var 5) (a_val (s_at (s_var 1) s_int) a_nil)))) (blkOk_by (by kernel_rfl)) rfl (fun _ _ _ _ _ => (g_seq (.blk z _ _ _ _ _) (gs_cons (g_seq (.blk z _ _ _ _ _) (gs_cons (g_name 10 (.blk z _ _ _ _ _)) (gs_cons (g_name 11 (.blk z _ _ _ _ _)) gs_nil)) (gn_cons (gn_cons gn_nil))) (gs_cons (g_name 8 (.blk z _ _ _ _ _)) (gs_cons (g_name 9 (.blk z _ _ _ _ _)) gs_nil))) (gn_cons (gn_cons (gn_cons gn_nil))))) (fun _ _ _ _ _ => ts_nil) (fun _ _ _ _ _ => (s_callL (.blk z _ _ _ _ _) ((ok_blocks g).mono (k := 6) (by decide)).at gl_k (a_val (s_var 8) (a_val (s_var 9) (a_val (s_at (s_var 4) (s_var 10)) (a_val (s_at (s_var 6) (s_var 10)) a_nil)))) (ln_val (ln_val (ln_val (ln_val ln_nil)))))) (sw_true rfl rfl rfl (by decide +kernel)))
  (x_one (x_ret (s_tup (a_val (s_var 2) (a_val (s_var 3) (a_val (s_tuple gl_k g.b_tuple (s_lc (own := [("one", 12), ("two", 13)]) z (i_zip gl_k g.b_zip (a_val (s_var 4) (a_val (s_var 6) a_nil))) (blkOk_by (by kernel_rfl)) rfl (fun _ _ _ _ _ => (g_seq (.blk z _ _ _ _ _) (gs_cons (g_name 12 (.blk z _ _ _ _ _)) (gs_cons (g_name 13 (.blk z _ _ _ _ _)) gs_nil)) (gn_cons (gn_cons gn_nil)))) (fun _ _ _ _ _ => ts_nil) (fun _ _ _ _ _ => (s_add (s_var 12) (s_var 13))))) (a_val (s_tuple gl_k g.b_tuple (s_var 7)) a_nil))))))))))))
theorem ok_add (g : G K mg ad) : FnA P w K mg base (clsOf ad) 7 "add" 2 f_add :=
  fnA_of g.d_add sc_add (fun _ _ _ _ _ _ us hl => match us, hl with | [_, _], _ => rfl) (b_add g)
theorem sc__law_word : FnScope ["module", "other", "e"] ["module", "other"] (defScope st__law_word) := ⟨rfl, rfl, rfl, by decide +kernel, rfl, by decide +kernel, by decide +kernel⟩
theorem b__law_word (g : G K mg ad) (f : Addr) (cd : Value) (A : Around) (outer : List PySem.Env) (s : Shared) (H : Hp) (E : XK) (B : Nat → Option Addr) (z : (Zf P w K mg base (clsOf ad) 7 ["module", "other", "e"] "_law_word" (defScope st__law_word) f cd A outer s H E B).Ok) : SSs (Zf P w K mg base (clsOf ad) 7 ["module", "other", "e"] "_law_word" (defScope st__law_word) f cd A outer s H E B) (defBody st__law_word) (m__law_word) :=
  (x_cons (x_try z 2 rfl rfl rfl rfl ⟨gl_k, by kernel_rfl, .inl g.x_SeveralmapsError⟩ (exm_SeveralmapsError g) (fun c => (orR_slot (ifR_slot (orR_slot valR_slot noneR_slot) noneR_slot) (orR_slot (ifR_slot (orR_slot valR_slot noneR_slot) noneR_slot) (orR_slot (ifR_slot (orR_slot valR_slot noneR_slot) noneR_slot) (orR_slot valR_slot noneR_slot)))))
  (fun W pn xe z => (x_one (x_expr (s_callL z ((ok_add g).mono (k := 7) (by decide)).at gl_k (a_val (s_var 0) (a_val (s_var 1) a_nil)) (ln_val (ln_val ln_nil))))))
  (fun c a oe pn hkn hz hf => (us_more (us_if (u_tv (u_ise (exc_at g c) hz hf ⟨gl_k, by kernel_rfl, .own _, .inl g.x_BadModule⟩ (kit_BadModule g c) rfl vis_k gl_k g.b_isinstance)) (us_more (us_ret u_str (fun _ => .str _)) us_nil) us_nil) (us_more (us_if (u_tv (u_ise (exc_at g c) hz hf ⟨gl_k, by kernel_rfl, .own _, .inl g.x_BadArgument⟩ (kit_BadArgument g c) rfl vis_k gl_k g.b_isinstance)) (us_more (us_ret u_str (fun _ => .str _)) us_nil) us_nil) (us_more (us_if (u_tv (u_ise (exc_at g c) hz hf ⟨gl_k, by kernel_rfl, .own _, .inl g.x_TooLarge⟩ (kit_TooLarge g c) rfl vis_k gl_k g.b_isinstance)) (us_more (us_ret u_str (fun _ => .str _)) us_nil) us_nil) (us_more (us_ret u_str (fun _ => .str _)) us_nil))))))
  (x_one (x_ret s_str)))
theorem ok__law_word (g : G K mg ad) : FnA P w K mg base (clsOf ad) 8 "_law_word" 2 f__law_word :=
  fnA_of g.d__law_word sc__law_word (fun _ _ _ _ _ _ us hl => match us, hl with | [_, _], _ => rfl) (b__law_word g)
theorem sc__law_equal : FnScope ["actual", "due"] ["actual", "due"] (defScope st__law_equal) := ⟨rfl, rfl, rfl, by decide +kernel, rfl, by decide +kernel, by decide +kernel⟩
theorem b__law_equal (g : G K mg ad) {q__law_equal q__law_all_equal : Pi.Env → Option Out} (k : Nat) (h__law_equal : FnA P w K mg base (clsOf ad) (0 + k) "_law_equal" 2 q__law_equal) (h__law_all_equal : FnA P w K mg base (clsOf ad) (0 + k) "_law_all_equal" 2 q__law_all_equal) (f : Addr) (cd : Value) (A : Around) (outer : List PySem.Env) (s : Shared) (H : Hp) (E : XK) (B : Nat → Option Addr) (z : (Zf P w K mg base (clsOf ad) (0 + k) ["actual", "due"] "_law_equal" (defScope st__law_equal) f cd A outer s H E B).Ok) : SSs (Zf P w K mg base (clsOf ad) (0 + k) ["actual", "due"] "_law_equal" (defScope st__law_equal) f cd A outer s H E B) (defBody st__law_equal) (m__law_equal q__law_equal q__law_all_equal) :=
  (x_cons (x_if (t_val (s_isi "list" kit_L gl_k g.b_isinstance gl_k g.b_list (s_var 1) (hv := bb_list))) (x_cons (x_if (t_w (w_or (t_not (t_val (s_isi "list" kit_L gl_k g.b_isinstance gl_k g.b_list (s_var 0) (hv := bb_list)))) (w_one_or (t_ne z (s_len gl_k g.b_len (s_var 0)) (s_len gl_k g.b_len (s_var 1)))))) (x_one (x_ret s_bl)) x_nil)
  (x_one (x_ret (s_callL z h__law_all_equal.at gl_k (a_val (s_var 0) (a_val (s_var 1) a_nil)) (ln_val (ln_val ln_nil)))))) x_nil)
  (x_cons (x_if (t_val (s_isi "tuple" kit_Tu gl_k g.b_isinstance gl_k g.b_tuple (s_var 1) (hv := bb_tuple))) (x_cons (x_if (t_w (w_or (t_not (t_val (s_isi "tuple" kit_Tu gl_k g.b_isinstance gl_k g.b_tuple (s_var 0) (hv := bb_tuple)))) (w_one_or (t_ne z (s_len gl_k g.b_len (s_var 0)) (s_len gl_k g.b_len (s_var 1)))))) (x_one (x_ret s_bl)) x_nil)
  (x_one (x_ret (s_callL z h__law_all_equal.at gl_k (a_val (s_var 0) (a_val (s_var 1) a_nil)) (ln_val (ln_val ln_nil)))))) x_nil)
  (x_cons (x_if (t_val (s_isi "bool" kit_Bo gl_k g.b_isinstance gl_k g.b_bool (s_var 1) (hv := bb_bool))) (x_one (x_ret (s_and (s_isi "bool" kit_Bo gl_k g.b_isinstance gl_k g.b_bool (s_var 0) (hv := bb_bool)) (s_one (s_eq z (s_var 0) (s_var 1)))))) x_nil)
  (x_cons (x_if (t_val (s_isi "int" kit_I gl_k g.b_isinstance gl_k g.b_int (s_var 1) (hv := bb_int))) (x_one (x_ret (s_and (s_isi "int" kit_I gl_k g.b_isinstance gl_k g.b_int (s_var 0) (hv := bb_int)) (s_and (s_not (s_isi "bool" kit_Bo gl_k g.b_isinstance gl_k g.b_bool (s_var 0) (hv := bb_bool))) (s_one (s_eq z (s_var 0) (s_var 1))))))) x_nil)
  (x_cons (x_if (t_val (s_isi "str" kit_S gl_k g.b_isinstance gl_k g.b_str (s_var 1) (hv := bb_str))) (x_one (x_ret (s_and (s_isi "str" kit_S gl_k g.b_isinstance gl_k g.b_str (s_var 0) (hv := bb_str)) (s_one (s_eq z (s_var 0) (s_var 1)))))) x_nil)
  (x_one (x_ret (s_isN (s_var 0)))))))))
theorem sc__law_all_equal : FnScope ["actual", "due", "k"] ["actual", "due"] (defScope st__law_all_equal) := ⟨rfl, rfl, rfl, by decide +kernel, rfl, by decide +kernel, by decide +kernel⟩
theorem b__law_all_equal (g : G K mg ad) {q__law_equal q__law_all_equal : Pi.Env → Option Out} (k : Nat) (h__law_equal : FnA P w K mg base (clsOf ad) (0 + k) "_law_equal" 2 q__law_equal) (h__law_all_equal : FnA P w K mg base (clsOf ad) (0 + k) "_law_all_equal" 2 q__law_all_equal) (f : Addr) (cd : Value) (A : Around) (outer : List PySem.Env) (s : Shared) (H : Hp) (E : XK) (B : Nat → Option Addr) (z : (Zf P w K mg base (clsOf ad) (0 + k) ["actual", "due", "k"] "_law_all_equal" (defScope st__law_all_equal) f cd A outer s H E B).Ok) : SSs (Zf P w K mg base (clsOf ad) (0 + k) ["actual", "due", "k"] "_law_all_equal" (defScope st__law_all_equal) f cd A outer s H E B) (defBody st__law_all_equal) (m__law_all_equal q__law_equal q__law_all_equal) :=
  (x_cons (x_for z (i_rng1 gl_k g.b_range (s_len gl_k g.b_len (s_var 1))) (g_name 2 z) (x_one (x_if (t_not (t_val (s_callL z h__law_equal.at gl_k (a_val (s_at (s_var 0) (s_var 2)) (a_val (s_at (s_var 1) (s_var 2)) a_nil)) (ln_val (ln_val ln_nil))))) (x_one (x_ret s_bl)) x_nil)))
  (x_one (x_ret s_bl)))
theorem okr__law_equal (g : G K mg ad) : ∀ k : Nat, FnA P w K mg base (clsOf ad) (0 + k) "_law_equal" 2 (rec__law_equal k 0) ∧ FnA P w K mg base (clsOf ad) (0 + k) "_law_all_equal" 2 (rec__law_equal k 1)
  | 0 => ⟨fnA_none (ps := ["actual", "due"]) g.d__law_equal (fun _ _ _ _ _ _ us hl => match us, hl with | [_, _], _ => rfl), fnA_none (ps := ["actual", "due"]) g.d__law_all_equal (fun _ _ _ _ _ _ us hl => match us, hl with | [_, _], _ => rfl)⟩
  | k + 1 => ⟨fnA_of g.d__law_equal sc__law_equal (fun _ _ _ _ _ _ us hl => match us, hl with | [_, _], _ => rfl) (b__law_equal g k (okr__law_equal g k).1 (okr__law_equal g k).2), fnA_of g.d__law_all_equal sc__law_all_equal (fun _ _ _ _ _ _ us hl => match us, hl with | [_, _], _ => rfl) (b__law_all_equal g k (okr__law_equal g k).1 (okr__law_equal g k).2)⟩
theorem ok__law_equal (g : G K mg ad) : FnA P w K mg base (clsOf ad) 16 "_law_equal" 2 f__law_equal := (okr__law_equal g 16).1
theorem ok__law_all_equal (g : G K mg ad) : FnA P w K mg base (clsOf ad) 16 "_law_all_equal" 2 f__law_all_equal := (okr__law_equal g 16).2
theorem sc_law : FnScope ["script", "draws", "kind", "most", "module", "other", "kept", "one", "two", "unlike", "size_v", "plain"] ["script"] (defScope st_law) := ⟨rfl, rfl, rfl, by decide +kernel, rfl, by decide +kernel, by decide +kernel⟩
theorem b_law (g : G K mg ad) (f : Addr) (cd : Value) (A : Around) (outer : List PySem.Env) (s : Shared) (H : Hp) (E : XK) (B : Nat → Option Addr) (z : (Zf P w K mg base (clsOf ad) 16 ["script", "draws", "kind", "most", "module", "other", "kept", "one", "two", "unlike", "size_v", "plain"] "law" (defScope st_law) f cd A outer s H E B).Ok) : SSs (Zf P w K mg base (clsOf ad) 16 ["script", "draws", "kind", "most", "module", "other", "kept", "one", "two", "unlike", "size_v", "plain"] "law" (defScope st_law) f cd A outer s H E B) (defBody st_law) (m_law) :=
  (x_cons (x_set z 1 (s_lst (a_val (s_callL z ((ok__law_numbers g).mono (k := 16) (by decide)).at gl_k (a_val (s_var 0) a_nil) (ln_val ln_nil)) (a_val s_int a_nil))))
  (x_cons (x_set z 2 (s_callL z ((ok__law_kind g).mono (k := 16) (by decide)).at gl_k (a_ref 1 a_nil) (ln_ref ln_nil)))
  (x_cons (x_set z 3 (s_at (s_lst (a_val s_int (a_val s_int (a_val s_int (a_val s_int a_nil))))) (s_mod (s_callL z ((ok__law_draw g).mono (k := 16) (by decide)).at gl_k (a_ref 1 a_nil) (ln_ref ln_nil)) s_int)))
  (x_cons (x_set z 4 (s_callL z ((ok__law_module g).mono (k := 16) (by decide)).at gl_k (a_ref 1 (a_val (s_var 2) (a_val (s_callL z ((ok__law_dims g).mono (k := 16) (by decide)).at gl_k (a_ref 1 (a_val (s_at (s_var 2) s_int) (a_val (s_mod (s_callL z ((ok__law_draw g).mono (k := 16) (by decide)).at gl_k (a_ref 1 a_nil) (ln_ref ln_nil)) (s_var 3)) a_nil))) (ln_ref (ln_val (ln_val ln_nil)))) a_nil))) (ln_ref (ln_val (ln_val ln_nil)))))
  (x_cons (x_set z 5 (s_callL z ((ok__law_module g).mono (k := 16) (by decide)).at gl_k (a_ref 1 (a_val (s_var 2) (a_val (s_callL z ((ok__law_dims g).mono (k := 16) (by decide)).at gl_k (a_ref 1 (a_val (s_at (s_var 2) s_int) (a_val (s_mod (s_callL z ((ok__law_draw g).mono (k := 16) (by decide)).at gl_k (a_ref 1 a_nil) (ln_ref ln_nil)) (s_var 3)) a_nil))) (ln_ref (ln_val (ln_val ln_nil)))) a_nil))) (ln_ref (ln_val (ln_val ln_nil)))))
  (x_cons (x_set z 6 (s_toStr z gl_k g.b_str (s_lst (a_val (s_var 4) (a_val (s_var 5) a_nil)))))
  (x_cons (x_for z (i_seq (s_lst (a_val (s_tup (a_val (s_var 4) (a_val (s_var 5) a_nil))) (a_val (s_tup (a_val (s_var 5) (a_val (s_var 4) a_nil))) (a_val (s_tup (a_val (s_var 4) (a_val (s_var 4) a_nil))) a_nil))))) (g_seq z (gs_cons (g_name 7 z) (gs_cons (g_name 8 z) gs_nil)) (gn_cons (gn_cons gn_nil))) (x_one (x_if (t_not (t_val (s_callL z ((ok__law_equal g).mono (k := 16) (by decide)).at gl_k (a_val (s_callL z ((ok_add g).mono (k := 16) (by decide)).at gl_k (a_val (s_var 7) (a_val (s_var 8) a_nil)) (ln_val (ln_val ln_nil))) (a_val (s_callL z ((ok__law_sum g).mono (k := 16) (by decide)).at gl_k (a_val (s_var 7) (a_val (s_var 8) a_nil)) (ln_val (ln_val ln_nil))) a_nil)) (ln_val (ln_val ln_nil))))) (x_one (x_ret s_bl)) x_nil)))
  (x_cons (x_if (t_w (w_or (t_not (t_val (s_callL z ((ok__law_equal g).mono (k := 16) (by decide)).at gl_k (a_val (s_callL z ((ok_turned g).mono (k := 16) (by decide)).at gl_k (a_val (s_var 4) a_nil) (ln_val ln_nil)) (a_val (s_callL z ((ok__law_turned g).mono (k := 16) (by decide)).at gl_k (a_val (s_var 4) a_nil) (ln_val ln_nil)) a_nil)) (ln_val (ln_val ln_nil))))) (w_one_or (t_not (t_val (s_callL z ((ok__law_equal g).mono (k := 16) (by decide)).at gl_k (a_val (s_callL z ((ok_turned g).mono (k := 16) (by decide)).at gl_k (a_val (s_callL z ((ok_turned g).mono (k := 16) (by decide)).at gl_k (a_val (s_var 4) a_nil) (ln_val ln_nil)) a_nil) (ln_val ln_nil)) (a_val (s_var 4) a_nil)) (ln_val (ln_val ln_nil)))))))) (x_one (x_ret s_bl)) x_nil)
  (x_cons (x_if (t_not (t_val (s_callL z ((ok__law_equal g).mono (k := 16) (by decide)).at gl_k (a_val (s_callL z ((ok_turned g).mono (k := 16) (by decide)).at gl_k (a_val (s_callL z ((ok_add g).mono (k := 16) (by decide)).at gl_k (a_val (s_var 4) (a_val (s_var 5) a_nil)) (ln_val (ln_val ln_nil))) a_nil) (ln_val ln_nil)) (a_val (s_callL z ((ok_add g).mono (k := 16) (by decide)).at gl_k (a_val (s_callL z ((ok_turned g).mono (k := 16) (by decide)).at gl_k (a_val (s_var 4) a_nil) (ln_val ln_nil)) (a_val (s_callL z ((ok_turned g).mono (k := 16) (by decide)).at gl_k (a_val (s_var 5) a_nil) (ln_val ln_nil)) a_nil)) (ln_val (ln_val ln_nil))) a_nil)) (ln_val (ln_val ln_nil))))) (x_one (x_ret s_bl)) x_nil)
  (x_cons (x_for z (i_seq (s_callL z ((ok__law_unlike g).mono (k := 16) (by decide)).at gl_k (a_val (s_var 4) a_nil) (ln_val ln_nil))) (g_name 9 z) (x_cons (x_if (t_w (w_or (t_ne z (s_callL z ((ok__law_word g).mono (k := 16) (by decide)).at gl_k (a_val (s_var 4) (a_val (s_var 9) a_nil)) (ln_val (ln_val ln_nil))) s_str) (w_one_or (t_ne z (s_callL z ((ok__law_word g).mono (k := 16) (by decide)).at gl_k (a_val (s_var 9) (a_val (s_var 4) a_nil)) (ln_val (ln_val ln_nil))) s_str)))) (x_one (x_ret s_bl)) x_nil)
  (x_one (x_if (t_w (w_or (t_ne z (s_callL z ((ok__law_word g).mono (k := 16) (by decide)).at gl_k (a_val (s_var 9) (a_val (s_sl (s_var 4) o_none (o_some s_int)) a_nil)) (ln_val (ln_val ln_nil))) s_str) (w_one_or (t_ne z (s_callL z ((ok__law_word g).mono (k := 16) (by decide)).at gl_k (a_val s_non (a_val (s_var 9) a_nil)) (ln_val (ln_val ln_nil))) s_str)))) (x_one (x_ret s_bl)) x_nil))))
  (x_cons (x_set z 10 (s_mod (s_callL z ((ok__law_draw g).mono (k := 16) (by decide)).at gl_k (a_ref 1 a_nil) (ln_ref ln_nil)) s_int))
  (x_cons (x_set z 11 (s_lst (a_val (s_tup (a_val (s_at (s_var 2) s_int) (a_val (s_tup a_nil) (a_val (s_tup (a_val s_int (a_val (s_var 10) a_nil))) (a_val (s_tup a_nil) a_nil))))) (a_val (s_tup (a_val (s_at (s_var 2) s_int) (a_val (s_tup a_nil) (a_val (s_tup (a_val (s_sub s_int (s_var 10)) (a_val s_int a_nil))) (a_val (s_tup a_nil) a_nil))))) (a_val (s_tup (a_val (s_at (s_var 2) s_int) (a_val (s_tup a_nil) (a_val (s_tup (a_val s_int (a_val (s_sub s_int (s_var 10)) a_nil))) (a_val (s_tup a_nil) a_nil))))) a_nil)))))
  (x_cons (x_if (t_ne z (s_callL z ((ok__law_word g).mono (k := 16) (by decide)).at gl_k (a_val (s_at (s_var 11) s_int) (a_val (s_at (s_var 11) s_int) a_nil)) (ln_val (ln_val ln_nil))) s_str) (x_one (x_ret s_bl)) x_nil)
  (x_cons (x_if (t_w (w_and (t_gt (s_var 10) s_int) (w_one_and (t_ne z (s_callL z ((ok__law_word g).mono (k := 16) (by decide)).at gl_k (a_val (s_at (s_var 11) s_int) (a_val (s_at (s_var 11) s_int) a_nil)) (ln_val (ln_val ln_nil))) s_str)))) (x_one (x_ret s_bl)) x_nil)
  (x_one (x_ret (s_eq z (s_toStr z gl_k g.b_str (s_lst (a_val (s_var 4) (a_val (s_var 5) a_nil)))) (s_var 6))))))))))))))))))
theorem ok_law (g : G K mg ad) : FnA P w K mg base (clsOf ad) 17 "law" 1 f_law :=
  fnA_of g.d_law sc_law (fun _ _ _ _ _ _ us hl => match us, hl with | [_], _ => rfl) (b_law g)
theorem glue {l : PySem.W.OpenLaw} {w : World} {h : Heap} {fa : Addr} (X : K.In h) (G0 : h.Ns mainGlobals mg) (hfa : mg "law" = some (.ref fa))
  {ua_is_row : Addr} {oc_is_row kV_is_row dc_is_row pm_is_row cd_is_row ct_is_row : Value} {od_is_row an_is_row : Option Addr} {sl_is_row : Array (Option Value)}
  {ua_transposed : Addr} {oc_transposed kV_transposed dc_transposed pm_transposed cd_transposed ct_transposed : Value} {od_transposed an_transposed : Option Addr} {sl_transposed : Array (Option Value)}
  {ua_is_prime : Addr} {oc_is_prime kV_is_prime dc_is_prime pm_is_prime cd_is_prime ct_is_prime : Value} {od_is_prime an_is_prime : Option Addr} {sl_is_prime : Array (Option Value)}
  {ua_are_dims : Addr} {oc_are_dims kV_are_dims dc_are_dims pm_are_dims cd_are_dims ct_are_dims : Value} {od_are_dims an_are_dims : Option Addr} {sl_are_dims : Array (Option Value)}
  {ua_is_arrow : Addr} {oc_is_arrow kV_is_arrow dc_is_arrow pm_is_arrow cd_is_arrow ct_is_arrow : Value} {od_is_arrow an_is_arrow : Option Addr} {sl_is_arrow : Array (Option Value)}
  {ua_are_of_one_kind : Addr} {oc_are_of_one_kind kV_are_of_one_kind dc_are_of_one_kind pm_are_of_one_kind cd_are_of_one_kind ct_are_of_one_kind : Value} {od_are_of_one_kind an_are_of_one_kind : Option Addr} {sl_are_of_one_kind : Array (Option Value)}
  {ua_size : Addr} {oc_size kV_size dc_size pm_size cd_size ct_size : Value} {od_size an_size : Option Addr} {sl_size : Array (Option Value)}
  {ua_blocks : Addr} {oc_blocks kV_blocks dc_blocks pm_blocks cd_blocks ct_blocks : Value} {od_blocks an_blocks : Option Addr} {sl_blocks : Array (Option Value)}
  {ua__law_mixed : Addr} {oc__law_mixed kV__law_mixed dc__law_mixed pm__law_mixed cd__law_mixed ct__law_mixed : Value} {od__law_mixed an__law_mixed : Option Addr} {sl__law_mixed : Array (Option Value)}
  {ua__law_sum : Addr} {oc__law_sum kV__law_sum dc__law_sum pm__law_sum cd__law_sum ct__law_sum : Value} {od__law_sum an__law_sum : Option Addr} {sl__law_sum : Array (Option Value)}
  {ua__law_turned : Addr} {oc__law_turned kV__law_turned dc__law_turned pm__law_turned cd__law_turned ct__law_turned : Value} {od__law_turned an__law_turned : Option Addr} {sl__law_turned : Array (Option Value)}
  {ua__law_unlike : Addr} {oc__law_unlike kV__law_unlike dc__law_unlike pm__law_unlike cd__law_unlike ct__law_unlike : Value} {od__law_unlike an__law_unlike : Option Addr} {sl__law_unlike : Array (Option Value)}
  {ua_is_matrix : Addr} {oc_is_matrix kV_is_matrix dc_is_matrix pm_is_matrix cd_is_matrix ct_is_matrix : Value} {od_is_matrix an_is_matrix : Option Addr} {sl_is_matrix : Array (Option Value)}
  {ua_are_arrows : Addr} {oc_are_arrows kV_are_arrows dc_are_arrows pm_are_arrows cd_are_arrows ct_are_arrows : Value} {od_are_arrows an_are_arrows : Option Addr} {sl_are_arrows : Array (Option Value)}
  {ua_check_kind : Addr} {oc_check_kind kV_check_kind dc_check_kind pm_check_kind cd_check_kind ct_check_kind : Value} {od_check_kind an_check_kind : Option Addr} {sl_check_kind : Array (Option Value)}
  {ua_turn : Addr} {oc_turn kV_turn dc_turn pm_turn cd_turn ct_turn : Value} {od_turn an_turn : Option Addr} {sl_turn : Array (Option Value)}
  {ua__law_numbers : Addr} {oc__law_numbers kV__law_numbers dc__law_numbers pm__law_numbers cd__law_numbers ct__law_numbers : Value} {od__law_numbers an__law_numbers : Option Addr} {sl__law_numbers : Array (Option Value)}
  {ua__law_draw : Addr} {oc__law_draw kV__law_draw dc__law_draw pm__law_draw cd__law_draw ct__law_draw : Value} {od__law_draw an__law_draw : Option Addr} {sl__law_draw : Array (Option Value)}
  {ua_are_maps : Addr} {oc_are_maps kV_are_maps dc_are_maps pm_are_maps cd_are_maps ct_are_maps : Value} {od_are_maps an_are_maps : Option Addr} {sl_are_maps : Array (Option Value)}
  {ua__law_kind : Addr} {oc__law_kind kV__law_kind dc__law_kind pm__law_kind cd__law_kind ct__law_kind : Value} {od__law_kind an__law_kind : Option Addr} {sl__law_kind : Array (Option Value)}
  {ua__law_dims : Addr} {oc__law_dims kV__law_dims dc__law_dims pm__law_dims cd__law_dims ct__law_dims : Value} {od__law_dims an__law_dims : Option Addr} {sl__law_dims : Array (Option Value)}
  {ua__law_matrix : Addr} {oc__law_matrix kV__law_matrix dc__law_matrix pm__law_matrix cd__law_matrix ct__law_matrix : Value} {od__law_matrix an__law_matrix : Option Addr} {sl__law_matrix : Array (Option Value)}
  {ua_is_module : Addr} {oc_is_module kV_is_module dc_is_module pm_is_module cd_is_module ct_is_module : Value} {od_is_module an_is_module : Option Addr} {sl_is_module : Array (Option Value)}
  {ua__law_module : Addr} {oc__law_module kV__law_module dc__law_module pm__law_module cd__law_module ct__law_module : Value} {od__law_module an__law_module : Option Addr} {sl__law_module : Array (Option Value)}
  {ua_check_module : Addr} {oc_check_module kV_check_module dc_check_module pm_check_module cd_check_module ct_check_module : Value} {od_check_module an_check_module : Option Addr} {sl_check_module : Array (Option Value)}
  {ua_check_pair : Addr} {oc_check_pair kV_check_pair dc_check_pair pm_check_pair cd_check_pair ct_check_pair : Value} {od_check_pair an_check_pair : Option Addr} {sl_check_pair : Array (Option Value)}
  {ua_turned : Addr} {oc_turned kV_turned dc_turned pm_turned cd_turned ct_turned : Value} {od_turned an_turned : Option Addr} {sl_turned : Array (Option Value)}
  {ua_add : Addr} {oc_add kV_add dc_add pm_add cd_add ct_add : Value} {od_add an_add : Option Addr} {sl_add : Array (Option Value)}
  {ua__law_word : Addr} {oc__law_word kV__law_word dc__law_word pm__law_word cd__law_word ct__law_word : Value} {od__law_word an__law_word : Option Addr} {sl__law_word : Array (Option Value)}
  {ua__law_equal : Addr} {oc__law_equal kV__law_equal dc__law_equal pm__law_equal cd__law_equal ct__law_equal : Value} {od__law_equal an__law_equal : Option Addr} {sl__law_equal : Array (Option Value)}
  {ua__law_all_equal : Addr} {oc__law_all_equal kV__law_all_equal dc__law_all_equal pm__law_all_equal cd__law_all_equal ct__law_all_equal : Value} {od__law_all_equal an__law_all_equal : Option Addr} {sl__law_all_equal : Array (Option Value)}
  {ua_law : Addr} {oc_law kV_law dc_law pm_law cd_law ct_law : Value} {od_law an_law : Option Addr} {sl_law : Array (Option Value)}
  {t_MOST_ARROWS : Nat}
  {t_MOST_SIZE : Nat}
  {t_MOST_SPACES : Nat}
  {a_PRIMES : Addr} {dd_PRIMES : Option Addr} {n_PRIMES : Nat} {sl_PRIMES : Array (Option Value)} {t_PRIMES_0 t_PRIMES_1 t_PRIMES_2 t_PRIMES_3 t_PRIMES_4 t_PRIMES_5 : Nat}
  {e_SeveralmapsError e_BadModule e_BadArgument e_TooLarge : Addr}
  (b_all : PySem.W.nsIn K mainGlobals "all" = some none)
  (b_bool : PySem.W.nsIn K mainGlobals "bool" = some none)
  (b_int : PySem.W.nsIn K mainGlobals "int" = some none)
  (b_isinstance : PySem.W.nsIn K mainGlobals "isinstance" = some none)
  (b_len : PySem.W.nsIn K mainGlobals "len" = some none)
  (b_list : PySem.W.nsIn K mainGlobals "list" = some none)
  (b_max : PySem.W.nsIn K mainGlobals "max" = some none)
  (b_min : PySem.W.nsIn K mainGlobals "min" = some none)
  (b_range : PySem.W.nsIn K mainGlobals "range" = some none)
  (b_str : PySem.W.nsIn K mainGlobals "str" = some none)
  (b_sum : PySem.W.nsIn K mainGlobals "sum" = some none)
  (b_tuple : PySem.W.nsIn K mainGlobals "tuple" = some none)
  (b_type : PySem.W.nsIn K mainGlobals "type" = some none)
  (b_zip : PySem.W.nsIn K mainGlobals "zip" = some none)
  (a_is_row : PySem.W.nsIn K mainGlobals "is_row" = some (some (.ref ua_is_row)))
  (l_is_row : K.lookup ua_is_row = some ⟨oc_is_row, od_is_row, .func (PySem.W.fnOf "is_row" "is_row" (defArgs st_is_row) (defBody st_is_row) (defScope st_is_row) .none kV_is_row dc_is_row pm_is_row an_is_row cd_is_row ct_is_row), sl_is_row⟩)
  (c_is_row : PySem.W.codeIn K cd_is_row "is_row" = true)
  (k_is_row : PySem.W.keepIn K (.ref ua_is_row) = true)
  (a_transposed : PySem.W.nsIn K mainGlobals "transposed" = some (some (.ref ua_transposed)))
  (l_transposed : K.lookup ua_transposed = some ⟨oc_transposed, od_transposed, .func (PySem.W.fnOf "transposed" "transposed" (defArgs st_transposed) (defBody st_transposed) (defScope st_transposed) .none kV_transposed dc_transposed pm_transposed an_transposed cd_transposed ct_transposed), sl_transposed⟩)
  (c_transposed : PySem.W.codeIn K cd_transposed "transposed" = true)
  (k_transposed : PySem.W.keepIn K (.ref ua_transposed) = true)
  (a_is_prime : PySem.W.nsIn K mainGlobals "is_prime" = some (some (.ref ua_is_prime)))
  (l_is_prime : K.lookup ua_is_prime = some ⟨oc_is_prime, od_is_prime, .func (PySem.W.fnOf "is_prime" "is_prime" (defArgs st_is_prime) (defBody st_is_prime) (defScope st_is_prime) .none kV_is_prime dc_is_prime pm_is_prime an_is_prime cd_is_prime ct_is_prime), sl_is_prime⟩)
  (c_is_prime : PySem.W.codeIn K cd_is_prime "is_prime" = true)
  (k_is_prime : PySem.W.keepIn K (.ref ua_is_prime) = true)
  (a_are_dims : PySem.W.nsIn K mainGlobals "are_dims" = some (some (.ref ua_are_dims)))
  (l_are_dims : K.lookup ua_are_dims = some ⟨oc_are_dims, od_are_dims, .func (PySem.W.fnOf "are_dims" "are_dims" (defArgs st_are_dims) (defBody st_are_dims) (defScope st_are_dims) .none kV_are_dims dc_are_dims pm_are_dims an_are_dims cd_are_dims ct_are_dims), sl_are_dims⟩)
  (c_are_dims : PySem.W.codeIn K cd_are_dims "are_dims" = true)
  (k_are_dims : PySem.W.keepIn K (.ref ua_are_dims) = true)
  (a_is_arrow : PySem.W.nsIn K mainGlobals "is_arrow" = some (some (.ref ua_is_arrow)))
  (l_is_arrow : K.lookup ua_is_arrow = some ⟨oc_is_arrow, od_is_arrow, .func (PySem.W.fnOf "is_arrow" "is_arrow" (defArgs st_is_arrow) (defBody st_is_arrow) (defScope st_is_arrow) .none kV_is_arrow dc_is_arrow pm_is_arrow an_is_arrow cd_is_arrow ct_is_arrow), sl_is_arrow⟩)
  (c_is_arrow : PySem.W.codeIn K cd_is_arrow "is_arrow" = true)
  (k_is_arrow : PySem.W.keepIn K (.ref ua_is_arrow) = true)
  (a_are_of_one_kind : PySem.W.nsIn K mainGlobals "are_of_one_kind" = some (some (.ref ua_are_of_one_kind)))
  (l_are_of_one_kind : K.lookup ua_are_of_one_kind = some ⟨oc_are_of_one_kind, od_are_of_one_kind, .func (PySem.W.fnOf "are_of_one_kind" "are_of_one_kind" (defArgs st_are_of_one_kind) (defBody st_are_of_one_kind) (defScope st_are_of_one_kind) .none kV_are_of_one_kind dc_are_of_one_kind pm_are_of_one_kind an_are_of_one_kind cd_are_of_one_kind ct_are_of_one_kind), sl_are_of_one_kind⟩)
  (c_are_of_one_kind : PySem.W.codeIn K cd_are_of_one_kind "are_of_one_kind" = true)
  (k_are_of_one_kind : PySem.W.keepIn K (.ref ua_are_of_one_kind) = true)
  (a_size : PySem.W.nsIn K mainGlobals "size" = some (some (.ref ua_size)))
  (l_size : K.lookup ua_size = some ⟨oc_size, od_size, .func (PySem.W.fnOf "size" "size" (defArgs st_size) (defBody st_size) (defScope st_size) .none kV_size dc_size pm_size an_size cd_size ct_size), sl_size⟩)
  (c_size : PySem.W.codeIn K cd_size "size" = true)
  (k_size : PySem.W.keepIn K (.ref ua_size) = true)
  (a_blocks : PySem.W.nsIn K mainGlobals "blocks" = some (some (.ref ua_blocks)))
  (l_blocks : K.lookup ua_blocks = some ⟨oc_blocks, od_blocks, .func (PySem.W.fnOf "blocks" "blocks" (defArgs st_blocks) (defBody st_blocks) (defScope st_blocks) .none kV_blocks dc_blocks pm_blocks an_blocks cd_blocks ct_blocks), sl_blocks⟩)
  (c_blocks : PySem.W.codeIn K cd_blocks "blocks" = true)
  (k_blocks : PySem.W.keepIn K (.ref ua_blocks) = true)
  (a__law_mixed : PySem.W.nsIn K mainGlobals "_law_mixed" = some (some (.ref ua__law_mixed)))
  (l__law_mixed : K.lookup ua__law_mixed = some ⟨oc__law_mixed, od__law_mixed, .func (PySem.W.fnOf "_law_mixed" "_law_mixed" (defArgs st__law_mixed) (defBody st__law_mixed) (defScope st__law_mixed) .none kV__law_mixed dc__law_mixed pm__law_mixed an__law_mixed cd__law_mixed ct__law_mixed), sl__law_mixed⟩)
  (c__law_mixed : PySem.W.codeIn K cd__law_mixed "_law_mixed" = true)
  (k__law_mixed : PySem.W.keepIn K (.ref ua__law_mixed) = true)
  (a__law_sum : PySem.W.nsIn K mainGlobals "_law_sum" = some (some (.ref ua__law_sum)))
  (l__law_sum : K.lookup ua__law_sum = some ⟨oc__law_sum, od__law_sum, .func (PySem.W.fnOf "_law_sum" "_law_sum" (defArgs st__law_sum) (defBody st__law_sum) (defScope st__law_sum) .none kV__law_sum dc__law_sum pm__law_sum an__law_sum cd__law_sum ct__law_sum), sl__law_sum⟩)
  (c__law_sum : PySem.W.codeIn K cd__law_sum "_law_sum" = true)
  (k__law_sum : PySem.W.keepIn K (.ref ua__law_sum) = true)
  (a__law_turned : PySem.W.nsIn K mainGlobals "_law_turned" = some (some (.ref ua__law_turned)))
  (l__law_turned : K.lookup ua__law_turned = some ⟨oc__law_turned, od__law_turned, .func (PySem.W.fnOf "_law_turned" "_law_turned" (defArgs st__law_turned) (defBody st__law_turned) (defScope st__law_turned) .none kV__law_turned dc__law_turned pm__law_turned an__law_turned cd__law_turned ct__law_turned), sl__law_turned⟩)
  (c__law_turned : PySem.W.codeIn K cd__law_turned "_law_turned" = true)
  (k__law_turned : PySem.W.keepIn K (.ref ua__law_turned) = true)
  (a__law_unlike : PySem.W.nsIn K mainGlobals "_law_unlike" = some (some (.ref ua__law_unlike)))
  (l__law_unlike : K.lookup ua__law_unlike = some ⟨oc__law_unlike, od__law_unlike, .func (PySem.W.fnOf "_law_unlike" "_law_unlike" (defArgs st__law_unlike) (defBody st__law_unlike) (defScope st__law_unlike) .none kV__law_unlike dc__law_unlike pm__law_unlike an__law_unlike cd__law_unlike ct__law_unlike), sl__law_unlike⟩)
  (c__law_unlike : PySem.W.codeIn K cd__law_unlike "_law_unlike" = true)
  (k__law_unlike : PySem.W.keepIn K (.ref ua__law_unlike) = true)
  (a_is_matrix : PySem.W.nsIn K mainGlobals "is_matrix" = some (some (.ref ua_is_matrix)))
  (l_is_matrix : K.lookup ua_is_matrix = some ⟨oc_is_matrix, od_is_matrix, .func (PySem.W.fnOf "is_matrix" "is_matrix" (defArgs st_is_matrix) (defBody st_is_matrix) (defScope st_is_matrix) .none kV_is_matrix dc_is_matrix pm_is_matrix an_is_matrix cd_is_matrix ct_is_matrix), sl_is_matrix⟩)
  (c_is_matrix : PySem.W.codeIn K cd_is_matrix "is_matrix" = true)
  (k_is_matrix : PySem.W.keepIn K (.ref ua_is_matrix) = true)
  (a_are_arrows : PySem.W.nsIn K mainGlobals "are_arrows" = some (some (.ref ua_are_arrows)))
  (l_are_arrows : K.lookup ua_are_arrows = some ⟨oc_are_arrows, od_are_arrows, .func (PySem.W.fnOf "are_arrows" "are_arrows" (defArgs st_are_arrows) (defBody st_are_arrows) (defScope st_are_arrows) .none kV_are_arrows dc_are_arrows pm_are_arrows an_are_arrows cd_are_arrows ct_are_arrows), sl_are_arrows⟩)
  (c_are_arrows : PySem.W.codeIn K cd_are_arrows "are_arrows" = true)
  (k_are_arrows : PySem.W.keepIn K (.ref ua_are_arrows) = true)
  (a_check_kind : PySem.W.nsIn K mainGlobals "check_kind" = some (some (.ref ua_check_kind)))
  (l_check_kind : K.lookup ua_check_kind = some ⟨oc_check_kind, od_check_kind, .func (PySem.W.fnOf "check_kind" "check_kind" (defArgs st_check_kind) (defBody st_check_kind) (defScope st_check_kind) .none kV_check_kind dc_check_kind pm_check_kind an_check_kind cd_check_kind ct_check_kind), sl_check_kind⟩)
  (c_check_kind : PySem.W.codeIn K cd_check_kind "check_kind" = true)
  (k_check_kind : PySem.W.keepIn K (.ref ua_check_kind) = true)
  (a_turn : PySem.W.nsIn K mainGlobals "turn" = some (some (.ref ua_turn)))
  (l_turn : K.lookup ua_turn = some ⟨oc_turn, od_turn, .func (PySem.W.fnOf "turn" "turn" (defArgs st_turn) (defBody st_turn) (defScope st_turn) .none kV_turn dc_turn pm_turn an_turn cd_turn ct_turn), sl_turn⟩)
  (c_turn : PySem.W.codeIn K cd_turn "turn" = true)
  (k_turn : PySem.W.keepIn K (.ref ua_turn) = true)
  (a__law_numbers : PySem.W.nsIn K mainGlobals "_law_numbers" = some (some (.ref ua__law_numbers)))
  (l__law_numbers : K.lookup ua__law_numbers = some ⟨oc__law_numbers, od__law_numbers, .func (PySem.W.fnOf "_law_numbers" "_law_numbers" (defArgs st__law_numbers) (defBody st__law_numbers) (defScope st__law_numbers) .none kV__law_numbers dc__law_numbers pm__law_numbers an__law_numbers cd__law_numbers ct__law_numbers), sl__law_numbers⟩)
  (c__law_numbers : PySem.W.codeIn K cd__law_numbers "_law_numbers" = true)
  (k__law_numbers : PySem.W.keepIn K (.ref ua__law_numbers) = true)
  (a__law_draw : PySem.W.nsIn K mainGlobals "_law_draw" = some (some (.ref ua__law_draw)))
  (l__law_draw : K.lookup ua__law_draw = some ⟨oc__law_draw, od__law_draw, .func (PySem.W.fnOf "_law_draw" "_law_draw" (defArgs st__law_draw) (defBody st__law_draw) (defScope st__law_draw) .none kV__law_draw dc__law_draw pm__law_draw an__law_draw cd__law_draw ct__law_draw), sl__law_draw⟩)
  (c__law_draw : PySem.W.codeIn K cd__law_draw "_law_draw" = true)
  (k__law_draw : PySem.W.keepIn K (.ref ua__law_draw) = true)
  (a_are_maps : PySem.W.nsIn K mainGlobals "are_maps" = some (some (.ref ua_are_maps)))
  (l_are_maps : K.lookup ua_are_maps = some ⟨oc_are_maps, od_are_maps, .func (PySem.W.fnOf "are_maps" "are_maps" (defArgs st_are_maps) (defBody st_are_maps) (defScope st_are_maps) .none kV_are_maps dc_are_maps pm_are_maps an_are_maps cd_are_maps ct_are_maps), sl_are_maps⟩)
  (c_are_maps : PySem.W.codeIn K cd_are_maps "are_maps" = true)
  (k_are_maps : PySem.W.keepIn K (.ref ua_are_maps) = true)
  (a__law_kind : PySem.W.nsIn K mainGlobals "_law_kind" = some (some (.ref ua__law_kind)))
  (l__law_kind : K.lookup ua__law_kind = some ⟨oc__law_kind, od__law_kind, .func (PySem.W.fnOf "_law_kind" "_law_kind" (defArgs st__law_kind) (defBody st__law_kind) (defScope st__law_kind) .none kV__law_kind dc__law_kind pm__law_kind an__law_kind cd__law_kind ct__law_kind), sl__law_kind⟩)
  (c__law_kind : PySem.W.codeIn K cd__law_kind "_law_kind" = true)
  (k__law_kind : PySem.W.keepIn K (.ref ua__law_kind) = true)
  (a__law_dims : PySem.W.nsIn K mainGlobals "_law_dims" = some (some (.ref ua__law_dims)))
  (l__law_dims : K.lookup ua__law_dims = some ⟨oc__law_dims, od__law_dims, .func (PySem.W.fnOf "_law_dims" "_law_dims" (defArgs st__law_dims) (defBody st__law_dims) (defScope st__law_dims) .none kV__law_dims dc__law_dims pm__law_dims an__law_dims cd__law_dims ct__law_dims), sl__law_dims⟩)
  (c__law_dims : PySem.W.codeIn K cd__law_dims "_law_dims" = true)
  (k__law_dims : PySem.W.keepIn K (.ref ua__law_dims) = true)
  (a__law_matrix : PySem.W.nsIn K mainGlobals "_law_matrix" = some (some (.ref ua__law_matrix)))
  (l__law_matrix : K.lookup ua__law_matrix = some ⟨oc__law_matrix, od__law_matrix, .func (PySem.W.fnOf "_law_matrix" "_law_matrix" (defArgs st__law_matrix) (defBody st__law_matrix) (defScope st__law_matrix) .none kV__law_matrix dc__law_matrix pm__law_matrix an__law_matrix cd__law_matrix ct__law_matrix), sl__law_matrix⟩)
  (c__law_matrix : PySem.W.codeIn K cd__law_matrix "_law_matrix" = true)
  (k__law_matrix : PySem.W.keepIn K (.ref ua__law_matrix) = true)
  (a_is_module : PySem.W.nsIn K mainGlobals "is_module" = some (some (.ref ua_is_module)))
  (l_is_module : K.lookup ua_is_module = some ⟨oc_is_module, od_is_module, .func (PySem.W.fnOf "is_module" "is_module" (defArgs st_is_module) (defBody st_is_module) (defScope st_is_module) .none kV_is_module dc_is_module pm_is_module an_is_module cd_is_module ct_is_module), sl_is_module⟩)
  (c_is_module : PySem.W.codeIn K cd_is_module "is_module" = true)
  (k_is_module : PySem.W.keepIn K (.ref ua_is_module) = true)
  (a__law_module : PySem.W.nsIn K mainGlobals "_law_module" = some (some (.ref ua__law_module)))
  (l__law_module : K.lookup ua__law_module = some ⟨oc__law_module, od__law_module, .func (PySem.W.fnOf "_law_module" "_law_module" (defArgs st__law_module) (defBody st__law_module) (defScope st__law_module) .none kV__law_module dc__law_module pm__law_module an__law_module cd__law_module ct__law_module), sl__law_module⟩)
  (c__law_module : PySem.W.codeIn K cd__law_module "_law_module" = true)
  (k__law_module : PySem.W.keepIn K (.ref ua__law_module) = true)
  (a_check_module : PySem.W.nsIn K mainGlobals "check_module" = some (some (.ref ua_check_module)))
  (l_check_module : K.lookup ua_check_module = some ⟨oc_check_module, od_check_module, .func (PySem.W.fnOf "check_module" "check_module" (defArgs st_check_module) (defBody st_check_module) (defScope st_check_module) .none kV_check_module dc_check_module pm_check_module an_check_module cd_check_module ct_check_module), sl_check_module⟩)
  (c_check_module : PySem.W.codeIn K cd_check_module "check_module" = true)
  (k_check_module : PySem.W.keepIn K (.ref ua_check_module) = true)
  (a_check_pair : PySem.W.nsIn K mainGlobals "check_pair" = some (some (.ref ua_check_pair)))
  (l_check_pair : K.lookup ua_check_pair = some ⟨oc_check_pair, od_check_pair, .func (PySem.W.fnOf "check_pair" "check_pair" (defArgs st_check_pair) (defBody st_check_pair) (defScope st_check_pair) .none kV_check_pair dc_check_pair pm_check_pair an_check_pair cd_check_pair ct_check_pair), sl_check_pair⟩)
  (c_check_pair : PySem.W.codeIn K cd_check_pair "check_pair" = true)
  (k_check_pair : PySem.W.keepIn K (.ref ua_check_pair) = true)
  (a_turned : PySem.W.nsIn K mainGlobals "turned" = some (some (.ref ua_turned)))
  (l_turned : K.lookup ua_turned = some ⟨oc_turned, od_turned, .func (PySem.W.fnOf "turned" "turned" (defArgs st_turned) (defBody st_turned) (defScope st_turned) .none kV_turned dc_turned pm_turned an_turned cd_turned ct_turned), sl_turned⟩)
  (c_turned : PySem.W.codeIn K cd_turned "turned" = true)
  (k_turned : PySem.W.keepIn K (.ref ua_turned) = true)
  (a_add : PySem.W.nsIn K mainGlobals "add" = some (some (.ref ua_add)))
  (l_add : K.lookup ua_add = some ⟨oc_add, od_add, .func (PySem.W.fnOf "add" "add" (defArgs st_add) (defBody st_add) (defScope st_add) .none kV_add dc_add pm_add an_add cd_add ct_add), sl_add⟩)
  (c_add : PySem.W.codeIn K cd_add "add" = true)
  (k_add : PySem.W.keepIn K (.ref ua_add) = true)
  (a__law_word : PySem.W.nsIn K mainGlobals "_law_word" = some (some (.ref ua__law_word)))
  (l__law_word : K.lookup ua__law_word = some ⟨oc__law_word, od__law_word, .func (PySem.W.fnOf "_law_word" "_law_word" (defArgs st__law_word) (defBody st__law_word) (defScope st__law_word) .none kV__law_word dc__law_word pm__law_word an__law_word cd__law_word ct__law_word), sl__law_word⟩)
  (c__law_word : PySem.W.codeIn K cd__law_word "_law_word" = true)
  (k__law_word : PySem.W.keepIn K (.ref ua__law_word) = true)
  (a__law_equal : PySem.W.nsIn K mainGlobals "_law_equal" = some (some (.ref ua__law_equal)))
  (l__law_equal : K.lookup ua__law_equal = some ⟨oc__law_equal, od__law_equal, .func (PySem.W.fnOf "_law_equal" "_law_equal" (defArgs st__law_equal) (defBody st__law_equal) (defScope st__law_equal) .none kV__law_equal dc__law_equal pm__law_equal an__law_equal cd__law_equal ct__law_equal), sl__law_equal⟩)
  (c__law_equal : PySem.W.codeIn K cd__law_equal "_law_equal" = true)
  (k__law_equal : PySem.W.keepIn K (.ref ua__law_equal) = true)
  (a__law_all_equal : PySem.W.nsIn K mainGlobals "_law_all_equal" = some (some (.ref ua__law_all_equal)))
  (l__law_all_equal : K.lookup ua__law_all_equal = some ⟨oc__law_all_equal, od__law_all_equal, .func (PySem.W.fnOf "_law_all_equal" "_law_all_equal" (defArgs st__law_all_equal) (defBody st__law_all_equal) (defScope st__law_all_equal) .none kV__law_all_equal dc__law_all_equal pm__law_all_equal an__law_all_equal cd__law_all_equal ct__law_all_equal), sl__law_all_equal⟩)
  (c__law_all_equal : PySem.W.codeIn K cd__law_all_equal "_law_all_equal" = true)
  (k__law_all_equal : PySem.W.keepIn K (.ref ua__law_all_equal) = true)
  (a_law : PySem.W.nsIn K mainGlobals "law" = some (some (.ref ua_law)))
  (l_law : K.lookup ua_law = some ⟨oc_law, od_law, .func (PySem.W.fnOf "law" "law" (defArgs st_law) (defBody st_law) (defScope st_law) .none kV_law dc_law pm_law an_law cd_law ct_law), sl_law⟩)
  (c_law : PySem.W.codeIn K cd_law "law" = true)
  (k_law : PySem.W.keepIn K (.ref ua_law) = true)
  (v_MOST_ARROWS : PySem.W.nsIn K mainGlobals "MOST_ARROWS" = some (some (.int 5 t_MOST_ARROWS)))
  (v_MOST_SIZE : PySem.W.nsIn K mainGlobals "MOST_SIZE" = some (some (.int 125 t_MOST_SIZE)))
  (v_MOST_SPACES : PySem.W.nsIn K mainGlobals "MOST_SPACES" = some (some (.int 4 t_MOST_SPACES)))
  (v_PRIMES : PySem.W.nsIn K mainGlobals "PRIMES" = some (some (.ref a_PRIMES)))
  (w_PRIMES : K.lookup a_PRIMES = some ⟨.type "tuple", dd_PRIMES, .seq ([.int 2 t_PRIMES_0, .int 3 t_PRIMES_1, .int 5 t_PRIMES_2, .int 7 t_PRIMES_3, .int 11 t_PRIMES_4, .int 13 t_PRIMES_5] : List Value).toArray n_PRIMES, sl_PRIMES⟩)
  (x_SeveralmapsError : PySem.W.nsIn K mainGlobals "SeveralmapsError" = some (some (.ref e_SeveralmapsError)))
  (x_BadModule : PySem.W.nsIn K mainGlobals "BadModule" = some (some (.ref e_BadModule)))
  (x_BadArgument : PySem.W.nsIn K mainGlobals "BadArgument" = some (some (.ref e_BadArgument)))
  (x_TooLarge : PySem.W.nsIn K mainGlobals "TooLarge" = some (some (.ref e_TooLarge)))
  (r_BadModule : PySem.W.excIn K e_BadModule [.type "ValueError", .type "Exception", .type "BaseException", .type "object"] "ValueError.__new__" = true)
  (kk_BadModule : PySem.W.keepIn K (.ref e_BadModule) = true)
  (s_BadModule : PySem.W.subIn K (.ref e_BadModule) (.type "BaseException") = some true)
  (t_BadModule : PySem.W.typeIn K (.ref e_BadModule) = some (.type "type"))
  (g1_BadModule : PySem.W.findIn K (.ref e_BadModule) "__getattribute__" = some (some (.builtin "BaseException.__getattribute__")))
  (g2_BadModule : PySem.W.findIn K (.ref e_BadModule) "__getattr__" = some none)
  (g3_BadModule : PySem.W.hasDictIn K e_BadModule = true)
  (g4_BadModule : PySem.W.findIn K (.ref e_BadModule) "__class__" = some (some (.builtin "object.__class__")))
  (g5_BadModule : PySem.W.specialIn K (.builtin "object.__class__") "__get__" = some (some (.builtin "getset_descriptor.__get__")))
  (g6_BadModule : PySem.W.takesIn K (.builtin "object.__class__") = some true)
  (g7_BadModule : PySem.W.mroIn K e_BadModule (.type "object") = some true)
  (q_BadModule_BadArgument : PySem.W.kitOne K (.ref e_BadModule) (.ref e_BadArgument) = some false)
  (q_BadModule_BadModule : PySem.W.kitOne K (.ref e_BadModule) (.ref e_BadModule) = some true)
  (q_BadModule_TooLarge : PySem.W.kitOne K (.ref e_BadModule) (.ref e_TooLarge) = some false)
  (m_BadModule_SeveralmapsError : PySem.W.exmOne K (.ref e_BadModule) (.ref e_SeveralmapsError) = some true)
  (r_BadArgument : PySem.W.excIn K e_BadArgument [.type "ValueError", .type "Exception", .type "BaseException", .type "object"] "ValueError.__new__" = true)
  (kk_BadArgument : PySem.W.keepIn K (.ref e_BadArgument) = true)
  (s_BadArgument : PySem.W.subIn K (.ref e_BadArgument) (.type "BaseException") = some true)
  (t_BadArgument : PySem.W.typeIn K (.ref e_BadArgument) = some (.type "type"))
  (g1_BadArgument : PySem.W.findIn K (.ref e_BadArgument) "__getattribute__" = some (some (.builtin "BaseException.__getattribute__")))
  (g2_BadArgument : PySem.W.findIn K (.ref e_BadArgument) "__getattr__" = some none)
  (g3_BadArgument : PySem.W.hasDictIn K e_BadArgument = true)
  (g4_BadArgument : PySem.W.findIn K (.ref e_BadArgument) "__class__" = some (some (.builtin "object.__class__")))
  (g5_BadArgument : PySem.W.specialIn K (.builtin "object.__class__") "__get__" = some (some (.builtin "getset_descriptor.__get__")))
  (g6_BadArgument : PySem.W.takesIn K (.builtin "object.__class__") = some true)
  (g7_BadArgument : PySem.W.mroIn K e_BadArgument (.type "object") = some true)
  (q_BadArgument_BadArgument : PySem.W.kitOne K (.ref e_BadArgument) (.ref e_BadArgument) = some true)
  (q_BadArgument_BadModule : PySem.W.kitOne K (.ref e_BadArgument) (.ref e_BadModule) = some false)
  (q_BadArgument_TooLarge : PySem.W.kitOne K (.ref e_BadArgument) (.ref e_TooLarge) = some false)
  (m_BadArgument_SeveralmapsError : PySem.W.exmOne K (.ref e_BadArgument) (.ref e_SeveralmapsError) = some true)
  (r_TooLarge : PySem.W.excIn K e_TooLarge [.type "ValueError", .type "Exception", .type "BaseException", .type "object"] "ValueError.__new__" = true)
  (kk_TooLarge : PySem.W.keepIn K (.ref e_TooLarge) = true)
  (s_TooLarge : PySem.W.subIn K (.ref e_TooLarge) (.type "BaseException") = some true)
  (t_TooLarge : PySem.W.typeIn K (.ref e_TooLarge) = some (.type "type"))
  (g1_TooLarge : PySem.W.findIn K (.ref e_TooLarge) "__getattribute__" = some (some (.builtin "BaseException.__getattribute__")))
  (g2_TooLarge : PySem.W.findIn K (.ref e_TooLarge) "__getattr__" = some none)
  (g3_TooLarge : PySem.W.hasDictIn K e_TooLarge = true)
  (g4_TooLarge : PySem.W.findIn K (.ref e_TooLarge) "__class__" = some (some (.builtin "object.__class__")))
  (g5_TooLarge : PySem.W.specialIn K (.builtin "object.__class__") "__get__" = some (some (.builtin "getset_descriptor.__get__")))
  (g6_TooLarge : PySem.W.takesIn K (.builtin "object.__class__") = some true)
  (g7_TooLarge : PySem.W.mroIn K e_TooLarge (.type "object") = some true)
  (q_TooLarge_BadArgument : PySem.W.kitOne K (.ref e_TooLarge) (.ref e_BadArgument) = some false)
  (q_TooLarge_BadModule : PySem.W.kitOne K (.ref e_TooLarge) (.ref e_BadModule) = some false)
  (q_TooLarge_TooLarge : PySem.W.kitOne K (.ref e_TooLarge) (.ref e_TooLarge) = some true)
  (m_TooLarge_SeveralmapsError : PySem.W.exmOne K (.ref e_TooLarge) (.ref e_SeveralmapsError) = some true) :
    ∃ (cls : Nat → Value) (fd : FuncData), (∀ (s : Shared) (u : Value), BindsTo s fd ⟨[u], []⟩ [("script", u)]) ∧ ∀ base : Heap, K.In base → base.Ns mainGlobals mg → FnG l.prog w K mg base 17 fa fd ["script"] (SpF K cls 1 f_law) := by
  have e := hfa.symm.trans (PySem.W.mg_of X G0 a_law)
  cases e
  have g : G K mg (fun i => List.getD [e_SeveralmapsError, e_BadModule, e_BadArgument, e_TooLarge] i 0) := ⟨PySem.W.mg_none_of X G0 b_all,
    PySem.W.mg_none_of X G0 b_bool,
    PySem.W.mg_none_of X G0 b_int,
    PySem.W.mg_none_of X G0 b_isinstance,
    PySem.W.mg_none_of X G0 b_len,
    PySem.W.mg_none_of X G0 b_list,
    PySem.W.mg_none_of X G0 b_max,
    PySem.W.mg_none_of X G0 b_min,
    PySem.W.mg_none_of X G0 b_range,
    PySem.W.mg_none_of X G0 b_str,
    PySem.W.mg_none_of X G0 b_sum,
    PySem.W.mg_none_of X G0 b_tuple,
    PySem.W.mg_none_of X G0 b_type,
    PySem.W.mg_none_of X G0 b_zip,
    ⟨ua_is_row, _, _, _, _, _, _, _, _, _, PySem.W.mg_of X G0 a_is_row, l_is_row, c_is_row, k_is_row⟩,
    ⟨ua_transposed, _, _, _, _, _, _, _, _, _, PySem.W.mg_of X G0 a_transposed, l_transposed, c_transposed, k_transposed⟩,
    ⟨ua_is_prime, _, _, _, _, _, _, _, _, _, PySem.W.mg_of X G0 a_is_prime, l_is_prime, c_is_prime, k_is_prime⟩,
    ⟨ua_are_dims, _, _, _, _, _, _, _, _, _, PySem.W.mg_of X G0 a_are_dims, l_are_dims, c_are_dims, k_are_dims⟩,
    ⟨ua_is_arrow, _, _, _, _, _, _, _, _, _, PySem.W.mg_of X G0 a_is_arrow, l_is_arrow, c_is_arrow, k_is_arrow⟩,
    ⟨ua_are_of_one_kind, _, _, _, _, _, _, _, _, _, PySem.W.mg_of X G0 a_are_of_one_kind, l_are_of_one_kind, c_are_of_one_kind, k_are_of_one_kind⟩,
    ⟨ua_size, _, _, _, _, _, _, _, _, _, PySem.W.mg_of X G0 a_size, l_size, c_size, k_size⟩,
    ⟨ua_blocks, _, _, _, _, _, _, _, _, _, PySem.W.mg_of X G0 a_blocks, l_blocks, c_blocks, k_blocks⟩,
    ⟨ua__law_mixed, _, _, _, _, _, _, _, _, _, PySem.W.mg_of X G0 a__law_mixed, l__law_mixed, c__law_mixed, k__law_mixed⟩,
    ⟨ua__law_sum, _, _, _, _, _, _, _, _, _, PySem.W.mg_of X G0 a__law_sum, l__law_sum, c__law_sum, k__law_sum⟩,
    ⟨ua__law_turned, _, _, _, _, _, _, _, _, _, PySem.W.mg_of X G0 a__law_turned, l__law_turned, c__law_turned, k__law_turned⟩,
    ⟨ua__law_unlike, _, _, _, _, _, _, _, _, _, PySem.W.mg_of X G0 a__law_unlike, l__law_unlike, c__law_unlike, k__law_unlike⟩,
    ⟨ua_is_matrix, _, _, _, _, _, _, _, _, _, PySem.W.mg_of X G0 a_is_matrix, l_is_matrix, c_is_matrix, k_is_matrix⟩,
    ⟨ua_are_arrows, _, _, _, _, _, _, _, _, _, PySem.W.mg_of X G0 a_are_arrows, l_are_arrows, c_are_arrows, k_are_arrows⟩,
    ⟨ua_check_kind, _, _, _, _, _, _, _, _, _, PySem.W.mg_of X G0 a_check_kind, l_check_kind, c_check_kind, k_check_kind⟩,
    ⟨ua_turn, _, _, _, _, _, _, _, _, _, PySem.W.mg_of X G0 a_turn, l_turn, c_turn, k_turn⟩,
    ⟨ua__law_numbers, _, _, _, _, _, _, _, _, _, PySem.W.mg_of X G0 a__law_numbers, l__law_numbers, c__law_numbers, k__law_numbers⟩,
    ⟨ua__law_draw, _, _, _, _, _, _, _, _, _, PySem.W.mg_of X G0 a__law_draw, l__law_draw, c__law_draw, k__law_draw⟩,
    ⟨ua_are_maps, _, _, _, _, _, _, _, _, _, PySem.W.mg_of X G0 a_are_maps, l_are_maps, c_are_maps, k_are_maps⟩,
    ⟨ua__law_kind, _, _, _, _, _, _, _, _, _, PySem.W.mg_of X G0 a__law_kind, l__law_kind, c__law_kind, k__law_kind⟩,
    ⟨ua__law_dims, _, _, _, _, _, _, _, _, _, PySem.W.mg_of X G0 a__law_dims, l__law_dims, c__law_dims, k__law_dims⟩,
    ⟨ua__law_matrix, _, _, _, _, _, _, _, _, _, PySem.W.mg_of X G0 a__law_matrix, l__law_matrix, c__law_matrix, k__law_matrix⟩,
    ⟨ua_is_module, _, _, _, _, _, _, _, _, _, PySem.W.mg_of X G0 a_is_module, l_is_module, c_is_module, k_is_module⟩,
    ⟨ua__law_module, _, _, _, _, _, _, _, _, _, PySem.W.mg_of X G0 a__law_module, l__law_module, c__law_module, k__law_module⟩,
    ⟨ua_check_module, _, _, _, _, _, _, _, _, _, PySem.W.mg_of X G0 a_check_module, l_check_module, c_check_module, k_check_module⟩,
    ⟨ua_check_pair, _, _, _, _, _, _, _, _, _, PySem.W.mg_of X G0 a_check_pair, l_check_pair, c_check_pair, k_check_pair⟩,
    ⟨ua_turned, _, _, _, _, _, _, _, _, _, PySem.W.mg_of X G0 a_turned, l_turned, c_turned, k_turned⟩,
    ⟨ua_add, _, _, _, _, _, _, _, _, _, PySem.W.mg_of X G0 a_add, l_add, c_add, k_add⟩,
    ⟨ua__law_word, _, _, _, _, _, _, _, _, _, PySem.W.mg_of X G0 a__law_word, l__law_word, c__law_word, k__law_word⟩,
    ⟨ua__law_equal, _, _, _, _, _, _, _, _, _, PySem.W.mg_of X G0 a__law_equal, l__law_equal, c__law_equal, k__law_equal⟩,
    ⟨ua__law_all_equal, _, _, _, _, _, _, _, _, _, PySem.W.mg_of X G0 a__law_all_equal, l__law_all_equal, c__law_all_equal, k__law_all_equal⟩,
    ⟨fa, _, _, _, _, _, _, _, _, _, PySem.W.mg_of X G0 a_law, l_law, c_law, k_law⟩,
    const_int (PySem.W.mg_of X G0 v_MOST_ARROWS),
    const_int (PySem.W.mg_of X G0 v_MOST_SIZE),
    const_int (PySem.W.mg_of X G0 v_MOST_SPACES),
    const_intsT (is := [2, 3, 5, 7, 11, 13]) (PySem.W.mg_of X G0 v_PRIMES) w_PRIMES (.cons 2 t_PRIMES_0 (.cons 3 t_PRIMES_1 (.cons 5 t_PRIMES_2 (.cons 7 t_PRIMES_3 (.cons 11 t_PRIMES_4 (.cons 13 t_PRIMES_5 .nil)))))) (by decide),
    PySem.W.mg_of X G0 x_SeveralmapsError,
    PySem.W.mg_of X G0 x_BadModule,
    PySem.W.mg_of X G0 x_BadArgument,
    PySem.W.mg_of X G0 x_TooLarge,
    r_BadModule,
    kk_BadModule,
    s_BadModule,
    t_BadModule,
    ⟨g1_BadModule, g2_BadModule, s_BadModule, g3_BadModule, g4_BadModule, g5_BadModule, g6_BadModule, g7_BadModule⟩,
    q_BadModule_BadArgument,
    q_BadModule_BadModule,
    q_BadModule_TooLarge,
    m_BadModule_SeveralmapsError,
    r_BadArgument,
    kk_BadArgument,
    s_BadArgument,
    t_BadArgument,
    ⟨g1_BadArgument, g2_BadArgument, s_BadArgument, g3_BadArgument, g4_BadArgument, g5_BadArgument, g6_BadArgument, g7_BadArgument⟩,
    q_BadArgument_BadArgument,
    q_BadArgument_BadModule,
    q_BadArgument_TooLarge,
    m_BadArgument_SeveralmapsError,
    r_TooLarge,
    kk_TooLarge,
    s_TooLarge,
    t_TooLarge,
    ⟨g1_TooLarge, g2_TooLarge, s_TooLarge, g3_TooLarge, g4_TooLarge, g5_TooLarge, g6_TooLarge, g7_TooLarge⟩,
    q_TooLarge_BadArgument,
    q_TooLarge_BadModule,
    q_TooLarge_TooLarge,
    m_TooLarge_SeveralmapsError⟩
  exact ⟨clsOf (fun i => List.getD [e_SeveralmapsError, e_BadModule, e_BadArgument, e_TooLarge] i 0), _, fun s v => .of_eq rfl, fun base _ _ => fnG_of l_law c_law sc_law (b_law g fa cd_law)⟩
end
end K02
set_option maxRecDepth 100000
set_option maxHeartbeats 2000000
namespace K02
open PySem PySem.Spec PyProof.Rows L2 Pi
/-! ### what the checks of a module say -/
def isInt : D → Bool
  | .int _ => true
  | _ => false
theorem tyN_int (d : D) : decide (tyN d = "int") = isInt d := by cases d <;> rfl
theorem all_ints : ∀ {ds : List D}, ds.filter (fun d => !isInt d) = [] → ∃ ns : List Int, ds = ns.map PyData.int
  | [], _ => ⟨[], rfl⟩
  | d :: r, h => by
    cases d with
    | int i =>
      obtain ⟨ns, e⟩ := all_ints (ds := r) (by simpa [isInt] using h)
      exact ⟨i :: ns, by rw [e]; rfl⟩
    | _ => simp [isInt] at h
theorem intsD_map : ∀ ns : List Int, intsD (ns.map PyData.int) = some ns
  | [] => rfl
  | n :: r => by simp [intsD, intsD_map r]
theorem best_some (c : Int → Int → Bool) (x : Int) (r : List Int) : ∃ m, best c (x :: r) = some m := ⟨_, rfl⟩
def inR (p : Int) (d : D) : Bool := match d with
  | .int i => decide (0 ≤ i ∧ i < p)
  | _ => false
def rowB (t : D) (c p : Int) : Bool := match t with
  | .tuple xs => decide ((xs.length : Int) = c) && xs.all (inR p)
  | _ => false
def lenD : D → Nat
  | .tuple xs => xs.length
  | .list xs => xs.length
  | _ => 0
theorem inR_ints (p : Int) : ∀ ns : List Int, (ns.map PyData.int).all (inR p) = ns.all fun i => decide (0 ≤ i ∧ i < p)
  | [] => rfl
  | n :: r => by simp [inR, inR_ints p r]
theorem row_is (t : D) (c p : Int) (hs : lenD t ≤ 1000000) : f_is_row [.val t, .val (.int c), .val (.int p)] = some (.rt (.val (.bool (rowB t c p))) [.val t, .val (.int c), .val (.int p)]) := by
  have fin : ∀ b ρ', left [.val t, .val (.int c), .val (.int p)] ρ' = [.val t, .val (.int c), .val (.int p)] ∧ giveR ρ' (.val (.bool b)) = some (.val (.bool b)) := fun b ρ' => ⟨by simp [runF, mSeq, mSet, mRet, mIf, mSkip, mExpr, mUnp, mOp, mUn, mVar, mC, mTru, mtAnd, mtOr, mtNot, mOr, mAnd, mNot, mIfE, mChain, mYes, mCall, insOf, refsOf, back, mConsV, mConsR, mNilA, mTup, mLst, valsA, Res.bind, rd, esc, putR, free_eq, fr, fAdd, fCatT, fCatL, fCatS, fMul, fRepT, fMod, fDiv, fSub, fPow, fOr, fI, fLt, fLe, fGt, fGe, fIx, atI, itemsD, fLen, truD, truG, truth, giveR, left, keepS, mPutL, mApp, gN, gTL, gsCons, gsNil, ixN, big], rfl⟩
  suffices h : ∃ ρ', m_is_row [.val t, .val (.int c), .val (.int p), .un] = some (.rt (.val (.bool (rowB t c p))) ρ') by
    obtain ⟨ρ', h⟩ := h
    have := run_rt (n := 4) (ins := [.val t, .val (.int c), .val (.int p)]) (mb := m_is_row) h (fin _ ρ').2
    rw [(fin true ρ').1] at this
    exact this
  by_cases ht : ∃ xs, t = .tuple xs
  · obtain ⟨xs, rfl⟩ := ht
    have hl : xs.length ≤ 1000000 := hs
    have t1 : mTru (mUn (fTyNe "tuple") (mVar 0)) [.val (.tuple xs), .val (.int c), .val (.int p), .un] = some (.ok false [.val (.tuple xs), .val (.int c), .val (.int p), .un]) := by simp [runF, mSeq, mSet, mRet, mIf, mSkip, mExpr, mUnp, mOp, mUn, mVar, mC, mTru, mtAnd, mtOr, mtNot, mOr, mAnd, mNot, mIfE, mChain, mYes, mCall, insOf, refsOf, back, mConsV, mConsR, mNilA, mTup, mLst, valsA, Res.bind, rd, esc, putR, free_eq, fr, fAdd, fCatT, fCatL, fCatS, fMul, fRepT, fMod, fDiv, fSub, fPow, fOr, fI, fLt, fLe, fGt, fGe, fIx, atI, itemsD, fLen, truD, truG, truth, giveR, left, keepS, mPutL, mApp, gN, gTL, gsCons, gsNil, ixN, big, fTyNe, tyN]
    have t2 : mTru (mOp fNe (mUn fLen (mVar 0)) (mVar 1)) [.val (.tuple xs), .val (.int c), .val (.int p), .un] = some (.ok (!decide ((xs.length : Int) = c)) [.val (.tuple xs), .val (.int c), .val (.int p), .un]) := by simp [runF, mSeq, mSet, mRet, mIf, mSkip, mExpr, mUnp, mOp, mUn, mVar, mC, mTru, mtAnd, mtOr, mtNot, mOr, mAnd, mNot, mIfE, mChain, mYes, mCall, insOf, refsOf, back, mConsV, mConsR, mNilA, mTup, mLst, valsA, Res.bind, rd, esc, putR, free_eq, fr, fAdd, fCatT, fCatL, fCatS, fMul, fRepT, fMod, fDiv, fSub, fPow, fOr, fI, fLt, fLe, fGt, fGe, fIx, atI, itemsD, fLen, truD, truG, truth, giveR, left, keepS, mPutL, mApp, gN, gTL, gsCons, gsNil, ixN, big, ne_ints]
    by_cases h1 : (xs.length : Int) = c
    · have hlc := mLc_pure (i := 3) (it := iSeq (mVar 0)) (c := mTru (mUn (fTyNe "int") (mVar 3))) (e := mVar 3) (q := fun d => !isInt d) (f := id) (ρ := [.val (.tuple xs), .val (.int c), .val (.int p), .un]) (ρ1 := [.val (.tuple xs), .val (.int c), .val (.int p), .un]) (ds := xs)
        (by simp [runF, mSeq, mSet, mRet, mIf, mSkip, mExpr, mUnp, mOp, mUn, mVar, mC, mTru, mtAnd, mtOr, mtNot, mOr, mAnd, mNot, mIfE, mChain, mYes, mCall, insOf, refsOf, back, mConsV, mConsR, mNilA, mTup, mLst, valsA, Res.bind, rd, esc, putR, free_eq, fr, fAdd, fCatT, fCatL, fCatS, fMul, fRepT, fMod, fDiv, fSub, fPow, fOr, fI, fLt, fLe, fGt, fGe, fIx, atI, itemsD, fLen, truD, truG, truth, giveR, left, keepS, mPutL, mApp, gN, gTL, gsCons, gsNil, ixN, big, iSeq, hl]) hl rfl (fun d _ => by simp [runF, mSeq, mSet, mRet, mIf, mSkip, mExpr, mUnp, mOp, mUn, mVar, mC, mTru, mtAnd, mtOr, mtNot, mOr, mAnd, mNot, mIfE, mChain, mYes, mCall, insOf, refsOf, back, mConsV, mConsR, mNilA, mTup, mLst, valsA, Res.bind, rd, esc, putR, free_eq, fr, fAdd, fCatT, fCatL, fCatS, fMul, fRepT, fMod, fDiv, fSub, fPow, fOr, fI, fLt, fLe, fGt, fGe, fIx, atI, itemsD, fLen, truD, truG, truth, giveR, left, keepS, mPutL, mApp, gN, gTL, gsCons, gsNil, ixN, big, fTyNe, tyN_int]) (fun d _ _ => ⟨.val d, by simp [runF, mSeq, mSet, mRet, mIf, mSkip, mExpr, mUnp, mOp, mUn, mVar, mC, mTru, mtAnd, mtOr, mtNot, mOr, mAnd, mNot, mIfE, mChain, mYes, mCall, insOf, refsOf, back, mConsV, mConsR, mNilA, mTup, mLst, valsA, Res.bind, rd, esc, putR, free_eq, fr, fAdd, fCatT, fCatL, fCatS, fMul, fRepT, fMod, fDiv, fSub, fPow, fOr, fI, fLt, fLe, fGt, fGe, fIx, atI, itemsD, fLen, truD, truG, truth, giveR, left, keepS, mPutL, mApp, gN, gTL, gsCons, gsNil, ixN, big], by simp [runF, mSeq, mSet, mRet, mIf, mSkip, mExpr, mUnp, mOp, mUn, mVar, mC, mTru, mtAnd, mtOr, mtNot, mOr, mAnd, mNot, mIfE, mChain, mYes, mCall, insOf, refsOf, back, mConsV, mConsR, mNilA, mTup, mLst, valsA, Res.bind, rd, esc, putR, free_eq, fr, fAdd, fCatT, fCatL, fCatS, fMul, fRepT, fMod, fDiv, fSub, fPow, fOr, fI, fLt, fLe, fGt, fGe, fIx, atI, itemsD, fLen, truD, truG, truth, giveR, left, keepS, mPutL, mApp, gN, gTL, gsCons, gsNil, ixN, big]⟩)
      have e1 : mIf (mtOr (mTru (mUn (fTyNe "tuple") (mVar 0))) (mTru (mOp fNe (mUn fLen (mVar 0)) (mVar 1)))) (mRet (mC (.bool false))) mSkip [.val (.tuple xs), .val (.int c), .val (.int p), .un] = some (.nx [.val (.tuple xs), .val (.int c), .val (.int p), .un]) := by
        rw [if_f (by rw [tor_f t1, t2, decide_eq_true h1]; rfl)]; rfl
      have e2 := tru_of_ok hlc (show rd _ (.own _) = some _ from rfl) (truD_list _)
      unfold m_is_row
      rw [seq_nx e1]
      cases h2 : xs.filter (fun d => !isInt d) with
      | cons y r =>
        rw [h2] at e2
        have hy : y ∈ xs.filter (fun d => !isInt d) := by rw [h2]; exact List.mem_cons_self
        obtain ⟨m1, m2⟩ := List.mem_filter.mp hy
        have e3 : rowB (.tuple xs) c p = false := by
          unfold rowB
          rw [Bool.and_eq_false_iff]
          right
          rw [List.all_eq_false]
          exact ⟨y, m1, by cases y <;> simp [inR, isInt] at m2 ⊢⟩
        rw [seq_rt (by rw [if_t e2]; rfl), e3]
        exact ⟨_, rfl⟩
      | nil =>
        rw [h2] at e2
        obtain ⟨ns, rfl⟩ := all_ints h2
        rw [seq_nx (by rw [if_f e2]; rfl)]
        by_cases h3 : c = 0
        · have : ns = [] := by
            cases ns with
            | nil => rfl
            | cons a r => simp at h1; omega
          subst this
          subst h3
          exact ⟨_, by rw [ret_of (show mOr _ _ _ = some (.ok (.val (.bool true)) _) from by simp [runF, mSeq, mSet, mRet, mIf, mSkip, mExpr, mUnp, mOp, mUn, mVar, mC, mTru, mtAnd, mtOr, mtNot, mOr, mAnd, mNot, mIfE, mChain, mYes, mCall, insOf, refsOf, back, mConsV, mConsR, mNilA, mTup, mLst, valsA, Res.bind, rd, esc, putR, free_eq, fr, fAdd, fCatT, fCatL, fCatS, fMul, fRepT, fMod, fDiv, fSub, fPow, fOr, fI, fLt, fLe, fGt, fGe, fIx, atI, itemsD, fLen, truD, truG, truth, giveR, left, keepS, mPutL, mApp, gN, gTL, gsCons, gsNil, ixN, big, eq_ints]; exact ⟨rfl, rfl⟩)]; rfl⟩
        · have : ∃ a r, ns = a :: r := by
            cases ns with
            | nil => simp at h1; omega
            | cons a r => exact ⟨a, r, rfl⟩
          obtain ⟨a, r, rfl⟩ := this
          obtain ⟨lo, hlo⟩ := best_some (fun y m => decide (y < m)) a r
          obtain ⟨hi, hhi⟩ := best_some (fun y m => decide (m < y)) a r
          have hlo' : minI (a :: r) = some lo := hlo
          have hhi' : maxI (a :: r) = some hi := hhi
          obtain ⟨l1, l2⟩ := minI_spec hlo'
          obtain ⟨g1, g2⟩ := maxI_spec hhi'
          have fmin : fMin (.tuple ((a :: r).map PyData.int)) = some (.val (.int lo)) := by
            unfold fMin fInts
            simp only [itemsD, Option.bind_some, intsD_map, hlo', Option.map_some]
          have fmax : fMax (.tuple ((a :: r).map PyData.int)) = some (.val (.int hi)) := by
            unfold fMax fInts
            simp only [itemsD, Option.bind_some, intsD_map, hhi', Option.map_some]
          have er : rowB (.tuple ((a :: r).map PyData.int)) c p = (decide (0 ≤ lo) && decide (hi < p)) := by
            have e0 : decide ((((a :: r).map PyData.int).length : Int) = c) = true := decide_eq_true h1
            unfold rowB
            simp only [e0, Bool.true_and]
            rw [inR_ints, Bool.eq_iff_iff]
            simp only [List.all_eq_true, decide_eq_true_eq, Bool.and_eq_true]
            constructor
            · intro h
              exact ⟨(h lo l1).1, (h hi g1).2⟩
            · rintro ⟨h, h'⟩ x hx
              have := l2 x hx
              have := g2 x hx
              omega
          rw [er]
          generalize (a :: r).map PyData.int = xs at fmin fmax
          refine ⟨[.val (.tuple xs), .val (.int c), .val (.int p), .un], ret_of (r := .val (.bool (decide (0 ≤ lo) && decide (hi < p)))) ?_⟩
          by_cases k1 : 0 ≤ lo
          · simp [runF, mSeq, mSet, mRet, mIf, mSkip, mExpr, mUnp, mOp, mUn, mVar, mC, mTru, mtAnd, mtOr, mtNot, mOr, mAnd, mNot, mIfE, mChain, mYes, mCall, insOf, refsOf, back, mConsV, mConsR, mNilA, mTup, mLst, valsA, Res.bind, rd, esc, putR, free_eq, fr, fAdd, fCatT, fCatL, fCatS, fMul, fRepT, fMod, fDiv, fSub, fPow, fOr, fI, fLt, fLe, fGt, fGe, fIx, atI, itemsD, fLen, truD, truG, truth, giveR, left, keepS, mPutL, mApp, gN, gTL, gsCons, gsNil, ixN, big, eq_ints, h3, fmin, fmax, k1, RV.fz]
          · simp [runF, mSeq, mSet, mRet, mIf, mSkip, mExpr, mUnp, mOp, mUn, mVar, mC, mTru, mtAnd, mtOr, mtNot, mOr, mAnd, mNot, mIfE, mChain, mYes, mCall, insOf, refsOf, back, mConsV, mConsR, mNilA, mTup, mLst, valsA, Res.bind, rd, esc, putR, free_eq, fr, fAdd, fCatT, fCatL, fCatS, fMul, fRepT, fMod, fDiv, fSub, fPow, fOr, fI, fLt, fLe, fGt, fGe, fIx, atI, itemsD, fLen, truD, truG, truth, giveR, left, keepS, mPutL, mApp, gN, gTL, gsCons, gsNil, ixN, big, eq_ints, h3, fmin, fmax, k1, RV.fz]
    · have e3 : rowB (.tuple xs) c p = false := by
        show (decide _ && _) = false
        rw [decide_eq_false h1]
        rfl
      unfold m_is_row
      rw [seq_rt (by rw [if_t (by rw [tor_f t1, t2, decide_eq_false h1]; rfl)]; rfl), e3]
      exact ⟨_, rfl⟩
  · have e3 : rowB t c p = false := by
      cases t <;> first | rfl | exact absurd ⟨_, rfl⟩ ht
    have t1 : mTru (mUn (fTyNe "tuple") (mVar 0)) [.val t, .val (.int c), .val (.int p), .un] = some (.ok true [.val t, .val (.int c), .val (.int p), .un]) := by
      cases t <;> first | (simp [runF, mSeq, mSet, mRet, mIf, mSkip, mExpr, mUnp, mOp, mUn, mVar, mC, mTru, mtAnd, mtOr, mtNot, mOr, mAnd, mNot, mIfE, mChain, mYes, mCall, insOf, refsOf, back, mConsV, mConsR, mNilA, mTup, mLst, valsA, Res.bind, rd, esc, putR, free_eq, fr, fAdd, fCatT, fCatL, fCatS, fMul, fRepT, fMod, fDiv, fSub, fPow, fOr, fI, fLt, fLe, fGt, fGe, fIx, atI, itemsD, fLen, truD, truG, truth, giveR, left, keepS, mPutL, mApp, gN, gTL, gsCons, gsNil, ixN, big, fTyNe, tyN]; done) | exact absurd ⟨_, rfl⟩ ht
    unfold m_is_row
    rw [seq_rt (by rw [if_t (tor_t t1)]; rfl), e3]
    exact ⟨_, rfl⟩
def itemsOf : D → List D
  | .tuple xs => xs
  | .list xs => xs
  | _ => []
/-- rows of a bearable length, n deep -/
def Sz : Nat → D → Prop
  | 0, d => lenD d ≤ 1000000
  | n + 1, d => lenD d ≤ 1000000 ∧ ∀ x ∈ itemsOf d, Sz n x
theorem Sz.len {n : Nat} {d : D} (h : Sz n d) : lenD d ≤ 1000000 := by
  cases n with
  | zero => exact h
  | succ n => exact h.1
/-- a check that gives a bool -/
theorem chk_of {n : Nat} {mb : MS} {ds : List D} {b : Bool} {ρ' : Pi.Env} (h : mb (ds.map Slot.val ++ List.replicate (n - (ds.map Slot.val).length) .un) = some (.rt (.val (.bool b)) ρ')) : runF n mb (ds.map Slot.val) = some (.rt (.val (.bool b)) (ds.map Slot.val)) := by
  have lv : ∀ (ds : List D) (ρ' : Pi.Env), left (ds.map Slot.val) ρ' = ds.map Slot.val := fun ds => by
    induction ds with
    | nil => intro ρ'; rfl
    | cons d r ih => intro ρ'; simp only [List.map_cons, left, keepS, ih]
  have := run_rt (n := n) (ins := ds.map Slot.val) (mb := mb) h rfl
  rw [lv] at this
  exact this
def matB (t : D) (r c p : Int) : Bool := match t with
  | .tuple xs => decide ((xs.length : Int) = r) && xs.all fun x => rowB x c p
  | _ => false
theorem matrix_is (t : D) (r c p : Int) (hs : Sz 1 t) : f_is_matrix [.val t, .val (.int r), .val (.int c), .val (.int p)] = some (.rt (.val (.bool (matB t r c p))) [.val t, .val (.int r), .val (.int c), .val (.int p)]) := by
  refine (fun ⟨ρ', h⟩ => chk_of (ds := [t, .int r, .int c, .int p]) (n := 5) (mb := m_is_matrix) (ρ' := ρ') h : (∃ ρ', m_is_matrix [.val t, .val (.int r), .val (.int c), .val (.int p), .un] = some (.rt (.val (.bool (matB t r c p))) ρ')) → _) ?_
  rcases tup_or t with ⟨xs, rfl⟩ | ht
  · have hl : xs.length ≤ 1000000 := hs.1
    have t1 : mTru (mUn (fTyNe "tuple") (mVar 0)) [.val (.tuple xs), .val (.int r), .val (.int c), .val (.int p), .un] = some (.ok false [.val (.tuple xs), .val (.int r), .val (.int c), .val (.int p), .un]) := by simp [runF, mSeq, mSet, mRet, mIf, mSkip, mExpr, mUnp, mOp, mUn, mVar, mC, mTru, mtAnd, mtOr, mtNot, mOr, mAnd, mNot, mIfE, mChain, mYes, mCall, insOf, refsOf, back, mConsV, mConsR, mNilA, mTup, mLst, valsA, Res.bind, rd, esc, putR, free_eq, fr, fAdd, fCatT, fCatL, fCatS, fMul, fRepT, fMod, fDiv, fSub, fPow, fOr, fI, fLt, fLe, fGt, fGe, fIx, atI, itemsD, fLen, truD, truG, truth, giveR, left, keepS, mPutL, mApp, gN, gTL, gsCons, gsNil, ixN, big, fTyNe, tyN]
    have t2 : mTru (mOp fNe (mUn fLen (mVar 0)) (mVar 1)) [.val (.tuple xs), .val (.int r), .val (.int c), .val (.int p), .un] = some (.ok (!decide ((xs.length : Int) = r)) [.val (.tuple xs), .val (.int r), .val (.int c), .val (.int p), .un]) := by simp [runF, mSeq, mSet, mRet, mIf, mSkip, mExpr, mUnp, mOp, mUn, mVar, mC, mTru, mtAnd, mtOr, mtNot, mOr, mAnd, mNot, mIfE, mChain, mYes, mCall, insOf, refsOf, back, mConsV, mConsR, mNilA, mTup, mLst, valsA, Res.bind, rd, esc, putR, free_eq, fr, fAdd, fCatT, fCatL, fCatS, fMul, fRepT, fMod, fDiv, fSub, fPow, fOr, fI, fLt, fLe, fGt, fGe, fIx, atI, itemsD, fLen, truD, truG, truth, giveR, left, keepS, mPutL, mApp, gN, gTL, gsCons, gsNil, ixN, big, ne_ints]
    unfold m_is_matrix
    by_cases h1 : (xs.length : Int) = r
    · rw [seq_nx (ρ1 := [.val (.tuple xs), .val (.int r), .val (.int c), .val (.int p), .un]) (by rw [if_f (by rw [tor_f t1, t2, decide_eq_true h1]; rfl)]; rfl)]
      have hlc := mLc_map (i := 4) (it := iSeq (mVar 0)) (e := E1_is_matrix) (f := fun x => .bool (rowB x c p)) (ρ := [.val (.tuple xs), .val (.int r), .val (.int c), .val (.int p), .un]) (ρ1 := [.val (.tuple xs), .val (.int r), .val (.int c), .val (.int p), .un]) (ds := xs)
        (by simp [runF, mSeq, mSet, mRet, mIf, mSkip, mExpr, mUnp, mOp, mUn, mVar, mC, mTru, mtAnd, mtOr, mtNot, mOr, mAnd, mNot, mIfE, mChain, mYes, mCall, insOf, refsOf, back, mConsV, mConsR, mNilA, mTup, mLst, valsA, Res.bind, rd, esc, putR, free_eq, fr, fAdd, fCatT, fCatL, fCatS, fMul, fRepT, fMod, fDiv, fSub, fPow, fOr, fI, fLt, fLe, fGt, fGe, fIx, atI, itemsD, fLen, truD, truG, truth, giveR, left, keepS, mPutL, mApp, gN, gTL, gsCons, gsNil, ixN, big, iSeq, hl]) hl rfl (fun d hd => ⟨_, call_of (ds := [d, .int c, .int p]) (by simp [runF, mSeq, mSet, mRet, mIf, mSkip, mExpr, mUnp, mOp, mUn, mVar, mC, mTru, mtAnd, mtOr, mtNot, mOr, mAnd, mNot, mIfE, mChain, mYes, mCall, insOf, refsOf, back, mConsV, mConsR, mNilA, mTup, mLst, valsA, Res.bind, rd, esc, putR, free_eq, fr, fAdd, fCatT, fCatL, fCatS, fMul, fRepT, fMod, fDiv, fSub, fPow, fOr, fI, fLt, fLe, fGt, fGe, fIx, atI, itemsD, fLen, truD, truG, truth, giveR, left, keepS, mPutL, mApp, gN, gTL, gsCons, gsNil, ixN, big]) (row_is d c p (hs.2 d hd).len) rfl (fun _ z => nomatch z), rfl⟩)
      refine ⟨_, ret_of (un_of hlc rfl ?_)⟩
      rw [all_map]
      simp [matB, h1]
    · rw [seq_rt (by rw [if_t (by rw [tor_f t1, t2, decide_eq_false h1]; rfl)]; rfl)]
      exact ⟨_, by simp [matB, h1]; exact rfl⟩
  · have t1 : mTru (mUn (fTyNe "tuple") (mVar 0)) [.val t, .val (.int r), .val (.int c), .val (.int p), .un] = some (.ok true [.val t, .val (.int r), .val (.int c), .val (.int p), .un]) := by simp [runF, mSeq, mSet, mRet, mIf, mSkip, mExpr, mUnp, mOp, mUn, mVar, mC, mTru, mtAnd, mtOr, mtNot, mOr, mAnd, mNot, mIfE, mChain, mYes, mCall, insOf, refsOf, back, mConsV, mConsR, mNilA, mTup, mLst, valsA, Res.bind, rd, esc, putR, free_eq, fr, fAdd, fCatT, fCatL, fCatS, fMul, fRepT, fMod, fDiv, fSub, fPow, fOr, fI, fLt, fLe, fGt, fGe, fIx, atI, itemsD, fLen, truD, truG, truth, giveR, left, keepS, mPutL, mApp, gN, gTL, gsCons, gsNil, ixN, big, fTyNe, ht]
    have e3 : matB t r c p = false := by cases t <;> first | rfl | exact absurd rfl ht
    unfold m_is_matrix
    rw [seq_rt (by rw [if_t (tor_t t1)]; rfl), e3]
    exact ⟨_, rfl⟩
/-! ### arrows -/
def arrowB (t : D) (n : Int) : Bool := match t with
  | .tuple xs => decide (xs.length = 2) && xs.all (inR n)
  | _ => false
theorem in_test (d : D) (t : D) (n : Int) : mtOr (mTru (mUn (fTyNe "int") (mVar 2))) (mtNot (mTru (mChain fLe fLt (mC (.int 0)) (mVar 2) (mVar 1)))) [.val t, .val (.int n), .val d] = some (.ok (!inR n d) [.val t, .val (.int n), .val d]) := by
  cases d with
  | int i =>
    by_cases h : 0 ≤ i
    · by_cases h' : i < n <;> simp [runF, mSeq, mSet, mRet, mIf, mSkip, mExpr, mUnp, mOp, mUn, mVar, mC, mTru, mtAnd, mtOr, mtNot, mOr, mAnd, mNot, mIfE, mChain, mYes, mCall, insOf, refsOf, back, mConsV, mConsR, mNilA, mTup, mLst, valsA, Res.bind, rd, esc, putR, free_eq, fr, fAdd, fCatT, fCatL, fCatS, fMul, fRepT, fMod, fDiv, fSub, fPow, fOr, fI, fLt, fLe, fGt, fGe, fIx, atI, itemsD, fLen, truD, truG, truth, giveR, left, keepS, mPutL, mApp, gN, gTL, gsCons, gsNil, ixN, big, fTyNe, tyN, inR, h, h']
    · simp [runF, mSeq, mSet, mRet, mIf, mSkip, mExpr, mUnp, mOp, mUn, mVar, mC, mTru, mtAnd, mtOr, mtNot, mOr, mAnd, mNot, mIfE, mChain, mYes, mCall, insOf, refsOf, back, mConsV, mConsR, mNilA, mTup, mLst, valsA, Res.bind, rd, esc, putR, free_eq, fr, fAdd, fCatT, fCatL, fCatS, fMul, fRepT, fMod, fDiv, fSub, fPow, fOr, fI, fLt, fLe, fGt, fGe, fIx, atI, itemsD, fLen, truD, truG, truth, giveR, left, keepS, mPutL, mApp, gN, gTL, gsCons, gsNil, ixN, big, fTyNe, tyN, inR, h]
  | _ => simp [runF, mSeq, mSet, mRet, mIf, mSkip, mExpr, mUnp, mOp, mUn, mVar, mC, mTru, mtAnd, mtOr, mtNot, mOr, mAnd, mNot, mIfE, mChain, mYes, mCall, insOf, refsOf, back, mConsV, mConsR, mNilA, mTup, mLst, valsA, Res.bind, rd, esc, putR, free_eq, fr, fAdd, fCatT, fCatL, fCatS, fMul, fRepT, fMod, fDiv, fSub, fPow, fOr, fI, fLt, fLe, fGt, fGe, fIx, atI, itemsD, fLen, truD, truG, truth, giveR, left, keepS, mPutL, mApp, gN, gTL, gsCons, gsNil, ixN, big, fTyNe, tyN, inR]
theorem arrow_is (t : D) (n : Int) (hs : lenD t ≤ 1000000) : f_is_arrow [.val t, .val (.int n)] = some (.rt (.val (.bool (arrowB t n))) [.val t, .val (.int n)]) := by
  refine (fun ⟨ρ', h⟩ => chk_of (ds := [t, .int n]) (n := 3) (mb := m_is_arrow) (ρ' := ρ') h : (∃ ρ', m_is_arrow [.val t, .val (.int n), .un] = some (.rt (.val (.bool (arrowB t n))) ρ')) → _) ?_
  rcases tup_or t with ⟨xs, rfl⟩ | ht
  · have hl : xs.length ≤ 1000000 := hs
    have t1 : mTru (mUn (fTyNe "tuple") (mVar 0)) [.val (.tuple xs), .val (.int n), .un] = some (.ok false [.val (.tuple xs), .val (.int n), .un]) := by simp [runF, mSeq, mSet, mRet, mIf, mSkip, mExpr, mUnp, mOp, mUn, mVar, mC, mTru, mtAnd, mtOr, mtNot, mOr, mAnd, mNot, mIfE, mChain, mYes, mCall, insOf, refsOf, back, mConsV, mConsR, mNilA, mTup, mLst, valsA, Res.bind, rd, esc, putR, free_eq, fr, fAdd, fCatT, fCatL, fCatS, fMul, fRepT, fMod, fDiv, fSub, fPow, fOr, fI, fLt, fLe, fGt, fGe, fIx, atI, itemsD, fLen, truD, truG, truth, giveR, left, keepS, mPutL, mApp, gN, gTL, gsCons, gsNil, ixN, big, fTyNe, tyN]
    have t2 : mTru (mOp fNe (mUn fLen (mVar 0)) (mC (.int 2))) [.val (.tuple xs), .val (.int n), .un] = some (.ok (!decide ((xs.length : Int) = 2)) [.val (.tuple xs), .val (.int n), .un]) := by simp [runF, mSeq, mSet, mRet, mIf, mSkip, mExpr, mUnp, mOp, mUn, mVar, mC, mTru, mtAnd, mtOr, mtNot, mOr, mAnd, mNot, mIfE, mChain, mYes, mCall, insOf, refsOf, back, mConsV, mConsR, mNilA, mTup, mLst, valsA, Res.bind, rd, esc, putR, free_eq, fr, fAdd, fCatT, fCatL, fCatS, fMul, fRepT, fMod, fDiv, fSub, fPow, fOr, fI, fLt, fLe, fGt, fGe, fIx, atI, itemsD, fLen, truD, truG, truth, giveR, left, keepS, mPutL, mApp, gN, gTL, gsCons, gsNil, ixN, big, ne_ints]
    unfold m_is_arrow
    by_cases h1 : xs.length = 2
    · have h1' : (xs.length : Int) = 2 := by omega
      rw [seq_nx (ρ1 := [.val (.tuple xs), .val (.int n), .un]) (by rw [if_f (by rw [tor_f t1, t2, decide_eq_true h1']; rfl)]; rfl)]
      have hlc := mLc_pure (i := 2) (it := iSeq (mVar 0)) (c := mtOr (mTru (mUn (fTyNe "int") (mVar 2))) (mtNot (mTru (mChain fLe fLt (mC (.int 0)) (mVar 2) (mVar 1))))) (e := mVar 2) (q := fun d => !inR n d) (f := id) (ρ := [.val (.tuple xs), .val (.int n), .un]) (ρ1 := [.val (.tuple xs), .val (.int n), .un]) (ds := xs)
        (by simp [runF, mSeq, mSet, mRet, mIf, mSkip, mExpr, mUnp, mOp, mUn, mVar, mC, mTru, mtAnd, mtOr, mtNot, mOr, mAnd, mNot, mIfE, mChain, mYes, mCall, insOf, refsOf, back, mConsV, mConsR, mNilA, mTup, mLst, valsA, Res.bind, rd, esc, putR, free_eq, fr, fAdd, fCatT, fCatL, fCatS, fMul, fRepT, fMod, fDiv, fSub, fPow, fOr, fI, fLt, fLe, fGt, fGe, fIx, atI, itemsD, fLen, truD, truG, truth, giveR, left, keepS, mPutL, mApp, gN, gTL, gsCons, gsNil, ixN, big, iSeq, hl]) hl rfl (fun d _ => in_test d _ n) (fun d _ _ => ⟨.val d, by simp [runF, mSeq, mSet, mRet, mIf, mSkip, mExpr, mUnp, mOp, mUn, mVar, mC, mTru, mtAnd, mtOr, mtNot, mOr, mAnd, mNot, mIfE, mChain, mYes, mCall, insOf, refsOf, back, mConsV, mConsR, mNilA, mTup, mLst, valsA, Res.bind, rd, esc, putR, free_eq, fr, fAdd, fCatT, fCatL, fCatS, fMul, fRepT, fMod, fDiv, fSub, fPow, fOr, fI, fLt, fLe, fGt, fGe, fIx, atI, itemsD, fLen, truD, truG, truth, giveR, left, keepS, mPutL, mApp, gN, gTL, gsCons, gsNil, ixN, big], by simp [runF, mSeq, mSet, mRet, mIf, mSkip, mExpr, mUnp, mOp, mUn, mVar, mC, mTru, mtAnd, mtOr, mtNot, mOr, mAnd, mNot, mIfE, mChain, mYes, mCall, insOf, refsOf, back, mConsV, mConsR, mNilA, mTup, mLst, valsA, Res.bind, rd, esc, putR, free_eq, fr, fAdd, fCatT, fCatL, fCatS, fMul, fRepT, fMod, fDiv, fSub, fPow, fOr, fI, fLt, fLe, fGt, fGe, fIx, atI, itemsD, fLen, truD, truG, truth, giveR, left, keepS, mPutL, mApp, gN, gTL, gsCons, gsNil, ixN, big]⟩)
      rw [List.map_id] at hlc
      have e := not_of hlc rfl (truD_list _)
      rw [empty_all (inR n)] at e
      have e3 : arrowB (.tuple xs) n = xs.all (inR n) := by simp [arrowB, h1]
      rw [e3]
      exact ⟨_, ret_of e⟩
    · have h1' : ¬ (xs.length : Int) = 2 := by omega
      rw [seq_rt (by rw [if_t (by rw [tor_f t1, t2, decide_eq_false h1']; rfl)]; rfl)]
      exact ⟨_, by simp [arrowB, h1]; exact rfl⟩
  · have t1 : mTru (mUn (fTyNe "tuple") (mVar 0)) [.val t, .val (.int n), .un] = some (.ok true [.val t, .val (.int n), .un]) := by simp [runF, mSeq, mSet, mRet, mIf, mSkip, mExpr, mUnp, mOp, mUn, mVar, mC, mTru, mtAnd, mtOr, mtNot, mOr, mAnd, mNot, mIfE, mChain, mYes, mCall, insOf, refsOf, back, mConsV, mConsR, mNilA, mTup, mLst, valsA, Res.bind, rd, esc, putR, free_eq, fr, fAdd, fCatT, fCatL, fCatS, fMul, fRepT, fMod, fDiv, fSub, fPow, fOr, fI, fLt, fLe, fGt, fGe, fIx, atI, itemsD, fLen, truD, truG, truth, giveR, left, keepS, mPutL, mApp, gN, gTL, gsCons, gsNil, ixN, big, fTyNe, ht]
    have e3 : arrowB t n = false := by cases t <;> first | rfl | exact absurd rfl ht
    unfold m_is_arrow
    rw [seq_rt (by rw [if_t (tor_t t1)]; rfl), e3]
    exact ⟨_, rfl⟩
def arrowsB (t : D) (n : Int) : Bool := match t with
  | .tuple xs => decide (xs.length ≤ 5) && xs.all fun x => arrowB x n
  | _ => false
theorem arrows_is (t : D) (n : Int) (hs : Sz 1 t) : f_are_arrows [.val t, .val (.int n)] = some (.rt (.val (.bool (arrowsB t n))) [.val t, .val (.int n)]) := by
  refine (fun ⟨ρ', h⟩ => chk_of (ds := [t, .int n]) (n := 3) (mb := m_are_arrows) (ρ' := ρ') h : (∃ ρ', m_are_arrows [.val t, .val (.int n), .un] = some (.rt (.val (.bool (arrowsB t n))) ρ')) → _) ?_
  rcases tup_or t with ⟨xs, rfl⟩ | ht
  · have hl : xs.length ≤ 1000000 := hs.1
    have t1 : mTru (mUn (fTyNe "tuple") (mVar 0)) [.val (.tuple xs), .val (.int n), .un] = some (.ok false [.val (.tuple xs), .val (.int n), .un]) := by simp [runF, mSeq, mSet, mRet, mIf, mSkip, mExpr, mUnp, mOp, mUn, mVar, mC, mTru, mtAnd, mtOr, mtNot, mOr, mAnd, mNot, mIfE, mChain, mYes, mCall, insOf, refsOf, back, mConsV, mConsR, mNilA, mTup, mLst, valsA, Res.bind, rd, esc, putR, free_eq, fr, fAdd, fCatT, fCatL, fCatS, fMul, fRepT, fMod, fDiv, fSub, fPow, fOr, fI, fLt, fLe, fGt, fGe, fIx, atI, itemsD, fLen, truD, truG, truth, giveR, left, keepS, mPutL, mApp, gN, gTL, gsCons, gsNil, ixN, big, fTyNe, tyN]
    have t2 : mTru (mOp fGt (mUn fLen (mVar 0)) (mC c_MOST_ARROWS)) [.val (.tuple xs), .val (.int n), .un] = some (.ok (decide ((5 : Int) < (xs.length : Int))) [.val (.tuple xs), .val (.int n), .un]) := by simp [runF, mSeq, mSet, mRet, mIf, mSkip, mExpr, mUnp, mOp, mUn, mVar, mC, mTru, mtAnd, mtOr, mtNot, mOr, mAnd, mNot, mIfE, mChain, mYes, mCall, insOf, refsOf, back, mConsV, mConsR, mNilA, mTup, mLst, valsA, Res.bind, rd, esc, putR, free_eq, fr, fAdd, fCatT, fCatL, fCatS, fMul, fRepT, fMod, fDiv, fSub, fPow, fOr, fI, fLt, fLe, fGt, fGe, fIx, atI, itemsD, fLen, truD, truG, truth, giveR, left, keepS, mPutL, mApp, gN, gTL, gsCons, gsNil, ixN, big]
    unfold m_are_arrows
    by_cases h1 : xs.length ≤ 5
    · have h1' : ¬ (5 : Int) < (xs.length : Int) := by omega
      rw [seq_nx (ρ1 := [.val (.tuple xs), .val (.int n), .un]) (by rw [if_f (by rw [tor_f t1, t2, decide_eq_false h1'])]; rfl)]
      have hlc := mLc_map (i := 2) (it := iSeq (mVar 0)) (e := E1_are_arrows) (f := fun x => .bool (arrowB x n)) (ρ := [.val (.tuple xs), .val (.int n), .un]) (ρ1 := [.val (.tuple xs), .val (.int n), .un]) (ds := xs)
        (by simp [runF, mSeq, mSet, mRet, mIf, mSkip, mExpr, mUnp, mOp, mUn, mVar, mC, mTru, mtAnd, mtOr, mtNot, mOr, mAnd, mNot, mIfE, mChain, mYes, mCall, insOf, refsOf, back, mConsV, mConsR, mNilA, mTup, mLst, valsA, Res.bind, rd, esc, putR, free_eq, fr, fAdd, fCatT, fCatL, fCatS, fMul, fRepT, fMod, fDiv, fSub, fPow, fOr, fI, fLt, fLe, fGt, fGe, fIx, atI, itemsD, fLen, truD, truG, truth, giveR, left, keepS, mPutL, mApp, gN, gTL, gsCons, gsNil, ixN, big, iSeq, hl]) hl rfl (fun d hd => ⟨_, call_of (ds := [d, .int n]) (by simp [runF, mSeq, mSet, mRet, mIf, mSkip, mExpr, mUnp, mOp, mUn, mVar, mC, mTru, mtAnd, mtOr, mtNot, mOr, mAnd, mNot, mIfE, mChain, mYes, mCall, insOf, refsOf, back, mConsV, mConsR, mNilA, mTup, mLst, valsA, Res.bind, rd, esc, putR, free_eq, fr, fAdd, fCatT, fCatL, fCatS, fMul, fRepT, fMod, fDiv, fSub, fPow, fOr, fI, fLt, fLe, fGt, fGe, fIx, atI, itemsD, fLen, truD, truG, truth, giveR, left, keepS, mPutL, mApp, gN, gTL, gsCons, gsNil, ixN, big]) (arrow_is d n (hs.2 d hd).len) rfl (fun _ z => nomatch z), rfl⟩)
      refine ⟨_, ret_of (un_of hlc rfl ?_)⟩
      rw [all_map]
      simp [arrowsB, h1]
    · have h1' : (5 : Int) < (xs.length : Int) := by omega
      rw [seq_rt (by rw [if_t (by rw [tor_f t1, t2, decide_eq_true h1'])]; rfl)]
      exact ⟨_, by simp [arrowsB, h1]; exact rfl⟩
  · have t1 : mTru (mUn (fTyNe "tuple") (mVar 0)) [.val t, .val (.int n), .un] = some (.ok true [.val t, .val (.int n), .un]) := by simp [runF, mSeq, mSet, mRet, mIf, mSkip, mExpr, mUnp, mOp, mUn, mVar, mC, mTru, mtAnd, mtOr, mtNot, mOr, mAnd, mNot, mIfE, mChain, mYes, mCall, insOf, refsOf, back, mConsV, mConsR, mNilA, mTup, mLst, valsA, Res.bind, rd, esc, putR, free_eq, fr, fAdd, fCatT, fCatL, fCatS, fMul, fRepT, fMod, fDiv, fSub, fPow, fOr, fI, fLt, fLe, fGt, fGe, fIx, atI, itemsD, fLen, truD, truG, truth, giveR, left, keepS, mPutL, mApp, gN, gTL, gsCons, gsNil, ixN, big, fTyNe, ht]
    have e3 : arrowsB t n = false := by cases t <;> first | rfl | exact absurd rfl ht
    unfold m_are_arrows
    rw [seq_rt (by rw [if_t (tor_t t1)]; rfl), e3]
    exact ⟨_, rfl⟩
/-! ### dims -/
def isNN : D → Bool
  | .int i => decide (0 ≤ i)
  | _ => false
def sumOf : List D → Int
  | [] => 0
  | .int i :: r => i + sumOf r
  | _ :: r => sumOf r
theorem sumOf_ints : ∀ ns : List Int, sumOf (ns.map PyData.int) = ns.sum
  | [] => rfl
  | n :: r => by simp [sumOf, sumOf_ints r]
theorem all_nn : ∀ {ds : List D}, ds.all isNN = true → ∃ ns : List Int, ds = ns.map PyData.int ∧ ∀ n ∈ ns, 0 ≤ n
  | [], _ => ⟨[], rfl, fun n h => nomatch h⟩
  | d :: r, h => by
    simp only [List.all_cons, Bool.and_eq_true] at h
    cases d with
    | int i =>
      obtain ⟨ns, e, hn⟩ := all_nn h.2
      refine ⟨i :: ns, by rw [e]; rfl, fun n hm => ?_⟩
      rcases List.mem_cons.mp hm with rfl | hm
      · simpa [isNN] using h.1
      · exact hn n hm
    | _ => simp [isNN] at h
def dimsB (t : D) : Bool := match t with
  | .tuple xs => decide (1 ≤ xs.length ∧ xs.length ≤ 4) && (xs.all isNN && decide (sumOf xs ≤ 125))
  | _ => false
theorem nn_test (d : D) (t : D) : mtOr (mTru (mUn (fTyNe "int") (mVar 1))) (mTru (mOp fLt (mVar 1) (mC (.int 0)))) [.val t, .val d] = some (.ok (!isNN d) [.val t, .val d]) := by
  cases d with
  | int i =>
    by_cases h : 0 ≤ i
    · have h' : ¬ i < 0 := by omega
      simp [runF, mSeq, mSet, mRet, mIf, mSkip, mExpr, mUnp, mOp, mUn, mVar, mC, mTru, mtAnd, mtOr, mtNot, mOr, mAnd, mNot, mIfE, mChain, mYes, mCall, insOf, refsOf, back, mConsV, mConsR, mNilA, mTup, mLst, valsA, Res.bind, rd, esc, putR, free_eq, fr, fAdd, fCatT, fCatL, fCatS, fMul, fRepT, fMod, fDiv, fSub, fPow, fOr, fI, fLt, fLe, fGt, fGe, fIx, atI, itemsD, fLen, truD, truG, truth, giveR, left, keepS, mPutL, mApp, gN, gTL, gsCons, gsNil, ixN, big, fTyNe, tyN, isNN, h, h']
    · have h' : i < 0 := by omega
      simp [runF, mSeq, mSet, mRet, mIf, mSkip, mExpr, mUnp, mOp, mUn, mVar, mC, mTru, mtAnd, mtOr, mtNot, mOr, mAnd, mNot, mIfE, mChain, mYes, mCall, insOf, refsOf, back, mConsV, mConsR, mNilA, mTup, mLst, valsA, Res.bind, rd, esc, putR, free_eq, fr, fAdd, fCatT, fCatL, fCatS, fMul, fRepT, fMod, fDiv, fSub, fPow, fOr, fI, fLt, fLe, fGt, fGe, fIx, atI, itemsD, fLen, truD, truG, truth, giveR, left, keepS, mPutL, mApp, gN, gTL, gsCons, gsNil, ixN, big, fTyNe, tyN, isNN, h, h']
  | _ => simp [runF, mSeq, mSet, mRet, mIf, mSkip, mExpr, mUnp, mOp, mUn, mVar, mC, mTru, mtAnd, mtOr, mtNot, mOr, mAnd, mNot, mIfE, mChain, mYes, mCall, insOf, refsOf, back, mConsV, mConsR, mNilA, mTup, mLst, valsA, Res.bind, rd, esc, putR, free_eq, fr, fAdd, fCatT, fCatL, fCatS, fMul, fRepT, fMod, fDiv, fSub, fPow, fOr, fI, fLt, fLe, fGt, fGe, fIx, atI, itemsD, fLen, truD, truG, truth, giveR, left, keepS, mPutL, mApp, gN, gTL, gsCons, gsNil, ixN, big, fTyNe, tyN, isNN]
theorem dims_is (t : D) (hs : lenD t ≤ 1000000) : f_are_dims [.val t] = some (.rt (.val (.bool (dimsB t))) [.val t]) := by
  refine (fun ⟨ρ', h⟩ => chk_of (ds := [t]) (n := 2) (mb := m_are_dims) (ρ' := ρ') h : (∃ ρ', m_are_dims [.val t, .un] = some (.rt (.val (.bool (dimsB t))) ρ')) → _) ?_
  rcases tup_or t with ⟨xs, rfl⟩ | ht
  · have hl : xs.length ≤ 1000000 := hs
    have t1 : mTru (mUn (fTyNe "tuple") (mVar 0)) [.val (.tuple xs), .un] = some (.ok false [.val (.tuple xs), .un]) := by simp [runF, mSeq, mSet, mRet, mIf, mSkip, mExpr, mUnp, mOp, mUn, mVar, mC, mTru, mtAnd, mtOr, mtNot, mOr, mAnd, mNot, mIfE, mChain, mYes, mCall, insOf, refsOf, back, mConsV, mConsR, mNilA, mTup, mLst, valsA, Res.bind, rd, esc, putR, free_eq, fr, fAdd, fCatT, fCatL, fCatS, fMul, fRepT, fMod, fDiv, fSub, fPow, fOr, fI, fLt, fLe, fGt, fGe, fIx, atI, itemsD, fLen, truD, truG, truth, giveR, left, keepS, mPutL, mApp, gN, gTL, gsCons, gsNil, ixN, big, fTyNe, tyN]
    have t2 : mtNot (mTru (mChain fLe fLe (mC (.int 1)) (mUn fLen (mVar 0)) (mC c_MOST_SPACES))) [.val (.tuple xs), .un] = some (.ok (!decide (1 ≤ xs.length ∧ xs.length ≤ 4)) [.val (.tuple xs), .un]) := by
      by_cases k1 : 1 ≤ xs.length
      · have k1' : (1 : Int) ≤ (xs.length : Int) := by omega
        by_cases k2 : xs.length ≤ 4
        · have k2' : (xs.length : Int) ≤ 4 := by omega
          simp [runF, mSeq, mSet, mRet, mIf, mSkip, mExpr, mUnp, mOp, mUn, mVar, mC, mTru, mtAnd, mtOr, mtNot, mOr, mAnd, mNot, mIfE, mChain, mYes, mCall, insOf, refsOf, back, mConsV, mConsR, mNilA, mTup, mLst, valsA, Res.bind, rd, esc, putR, free_eq, fr, fAdd, fCatT, fCatL, fCatS, fMul, fRepT, fMod, fDiv, fSub, fPow, fOr, fI, fLt, fLe, fGt, fGe, fIx, atI, itemsD, fLen, truD, truG, truth, giveR, left, keepS, mPutL, mApp, gN, gTL, gsCons, gsNil, ixN, big, k1, k2, k1', k2']
        · have k2' : ¬ (xs.length : Int) ≤ 4 := by omega
          simp [runF, mSeq, mSet, mRet, mIf, mSkip, mExpr, mUnp, mOp, mUn, mVar, mC, mTru, mtAnd, mtOr, mtNot, mOr, mAnd, mNot, mIfE, mChain, mYes, mCall, insOf, refsOf, back, mConsV, mConsR, mNilA, mTup, mLst, valsA, Res.bind, rd, esc, putR, free_eq, fr, fAdd, fCatT, fCatL, fCatS, fMul, fRepT, fMod, fDiv, fSub, fPow, fOr, fI, fLt, fLe, fGt, fGe, fIx, atI, itemsD, fLen, truD, truG, truth, giveR, left, keepS, mPutL, mApp, gN, gTL, gsCons, gsNil, ixN, big, k1, k2, k1', k2']
      · have k1' : ¬ (1 : Int) ≤ (xs.length : Int) := by omega
        simp [runF, mSeq, mSet, mRet, mIf, mSkip, mExpr, mUnp, mOp, mUn, mVar, mC, mTru, mtAnd, mtOr, mtNot, mOr, mAnd, mNot, mIfE, mChain, mYes, mCall, insOf, refsOf, back, mConsV, mConsR, mNilA, mTup, mLst, valsA, Res.bind, rd, esc, putR, free_eq, fr, fAdd, fCatT, fCatL, fCatS, fMul, fRepT, fMod, fDiv, fSub, fPow, fOr, fI, fLt, fLe, fGt, fGe, fIx, atI, itemsD, fLen, truD, truG, truth, giveR, left, keepS, mPutL, mApp, gN, gTL, gsCons, gsNil, ixN, big, k1, k1']
    unfold m_are_dims
    by_cases h1 : 1 ≤ xs.length ∧ xs.length ≤ 4
    · rw [seq_nx (ρ1 := [.val (.tuple xs), .un]) (by rw [if_f (by rw [tor_f t1, t2, decide_eq_true h1]; rfl)]; rfl)]
      have hlc := mLc_pure (i := 1) (it := iSeq (mVar 0)) (c := mtOr (mTru (mUn (fTyNe "int") (mVar 1))) (mTru (mOp fLt (mVar 1) (mC (.int 0))))) (e := mVar 1) (q := fun d => !isNN d) (f := id) (ρ := [.val (.tuple xs), .un]) (ρ1 := [.val (.tuple xs), .un]) (ds := xs)
        (by simp [runF, mSeq, mSet, mRet, mIf, mSkip, mExpr, mUnp, mOp, mUn, mVar, mC, mTru, mtAnd, mtOr, mtNot, mOr, mAnd, mNot, mIfE, mChain, mYes, mCall, insOf, refsOf, back, mConsV, mConsR, mNilA, mTup, mLst, valsA, Res.bind, rd, esc, putR, free_eq, fr, fAdd, fCatT, fCatL, fCatS, fMul, fRepT, fMod, fDiv, fSub, fPow, fOr, fI, fLt, fLe, fGt, fGe, fIx, atI, itemsD, fLen, truD, truG, truth, giveR, left, keepS, mPutL, mApp, gN, gTL, gsCons, gsNil, ixN, big, iSeq, hl]) hl rfl (fun d _ => nn_test d _) (fun d _ _ => ⟨.val d, by simp [runF, mSeq, mSet, mRet, mIf, mSkip, mExpr, mUnp, mOp, mUn, mVar, mC, mTru, mtAnd, mtOr, mtNot, mOr, mAnd, mNot, mIfE, mChain, mYes, mCall, insOf, refsOf, back, mConsV, mConsR, mNilA, mTup, mLst, valsA, Res.bind, rd, esc, putR, free_eq, fr, fAdd, fCatT, fCatL, fCatS, fMul, fRepT, fMod, fDiv, fSub, fPow, fOr, fI, fLt, fLe, fGt, fGe, fIx, atI, itemsD, fLen, truD, truG, truth, giveR, left, keepS, mPutL, mApp, gN, gTL, gsCons, gsNil, ixN, big], by simp [runF, mSeq, mSet, mRet, mIf, mSkip, mExpr, mUnp, mOp, mUn, mVar, mC, mTru, mtAnd, mtOr, mtNot, mOr, mAnd, mNot, mIfE, mChain, mYes, mCall, insOf, refsOf, back, mConsV, mConsR, mNilA, mTup, mLst, valsA, Res.bind, rd, esc, putR, free_eq, fr, fAdd, fCatT, fCatL, fCatS, fMul, fRepT, fMod, fDiv, fSub, fPow, fOr, fI, fLt, fLe, fGt, fGe, fIx, atI, itemsD, fLen, truD, truG, truth, giveR, left, keepS, mPutL, mApp, gN, gTL, gsCons, gsNil, ixN, big]⟩)
      rw [List.map_id] at hlc
      have e := not_of hlc rfl (truD_list _)
      rw [empty_all isNN] at e
      have e3 : dimsB (.tuple xs) = (xs.all isNN && decide (sumOf xs ≤ 125)) := by simp [dimsB, h1]
      rw [e3]
      cases ha : xs.all isNN with
      | false =>
        rw [ha] at e
        exact ⟨[.val (.tuple xs), .un], ret_of (by simp [mAnd, e, Res.bind, rd, truD_bool, RV.fz])⟩
      | true =>
        rw [ha] at e
        obtain ⟨ns, rfl, hn⟩ := all_nn ha
        have fs : fSum (.tuple (ns.map PyData.int)) = some (.val (.int (sumOf (ns.map PyData.int)))) := by
          unfold fSum fInts
          simp only [itemsD, Option.bind_some, intsD_map, Option.map_some, sumOf_ints]
        generalize ns.map PyData.int = ys at *
        exact ⟨[.val (.tuple ys), .un], ret_of (by
          simp only [mAnd, e, Res.bind, rd, truD_bool]
          simp [runF, mSeq, mSet, mRet, mIf, mSkip, mExpr, mUnp, mOp, mUn, mVar, mC, mTru, mtAnd, mtOr, mtNot, mOr, mAnd, mNot, mIfE, mChain, mYes, mCall, insOf, refsOf, back, mConsV, mConsR, mNilA, mTup, mLst, valsA, Res.bind, rd, esc, putR, free_eq, fr, fAdd, fCatT, fCatL, fCatS, fMul, fRepT, fMod, fDiv, fSub, fPow, fOr, fI, fLt, fLe, fGt, fGe, fIx, atI, itemsD, fLen, truD, truG, truth, giveR, left, keepS, mPutL, mApp, gN, gTL, gsCons, gsNil, ixN, big, fs])⟩
    · rw [seq_rt (by rw [if_t (by rw [tor_f t1, t2, decide_eq_false h1]; rfl)]; rfl)]
      exact ⟨_, by simp only [dimsB, decide_eq_false h1]; exact rfl⟩
  · have t1 : mTru (mUn (fTyNe "tuple") (mVar 0)) [.val t, .un] = some (.ok true [.val t, .un]) := by simp [runF, mSeq, mSet, mRet, mIf, mSkip, mExpr, mUnp, mOp, mUn, mVar, mC, mTru, mtAnd, mtOr, mtNot, mOr, mAnd, mNot, mIfE, mChain, mYes, mCall, insOf, refsOf, back, mConsV, mConsR, mNilA, mTup, mLst, valsA, Res.bind, rd, esc, putR, free_eq, fr, fAdd, fCatT, fCatL, fCatS, fMul, fRepT, fMod, fDiv, fSub, fPow, fOr, fI, fLt, fLe, fGt, fGe, fIx, atI, itemsD, fLen, truD, truG, truth, giveR, left, keepS, mPutL, mApp, gN, gTL, gsCons, gsNil, ixN, big, fTyNe, ht]
    have e3 : dimsB t = false := by cases t <;> first | rfl | exact absurd rfl ht
    unfold m_are_dims
    rw [seq_rt (by rw [if_t (tor_t t1)]; rfl), e3]
    exact ⟨_, rfl⟩
/-! ### maps -/
def at0 (ns : List Int) (i : Int) : Int := (ns[i.toNat]?).getD 0
theorem ix_ints {ns : List Int} {i : Int} (h : 0 ≤ i ∧ i < ns.length) : fIx (.tuple (ns.map PyData.int)) (.int i) = some (.val (.int (at0 ns i))) := by
  have hi : i.toNat < ns.length := by omega
  simp [fIx, itemsD, atI, ixN, h.1, h.2, at0, List.getElem?_eq_getElem hi]
theorem arrow_out {a : D} {n : Int} (h : arrowB a n = true) : ∃ s t : Int, a = .tuple [.int s, .int t] ∧ 0 ≤ s ∧ s < n ∧ 0 ≤ t ∧ t < n := by
  cases a with
  | tuple xs =>
    unfold arrowB at h
    simp only [Bool.and_eq_true, decide_eq_true_eq] at h
    obtain ⟨h1, h2⟩ := h
    match xs, h1, h2 with
    | [x, y], _, h2 =>
      simp only [List.all_cons, List.all_nil, Bool.and_true, Bool.and_eq_true] at h2
      cases x with
      | int s =>
        cases y with
        | int t =>
          simp only [inR, decide_eq_true_eq] at h2
          exact ⟨s, t, rfl, h2.1.1, h2.1.2, h2.2.1, h2.2.2⟩
        | _ => simp [inR] at h2
      | _ => simp [inR] at h2
  | _ => cases h
def mapB (p : Int) (ns : List Int) (d : D) : Bool := match d with
  | .tuple [x, .tuple [.int s, .int t]] => matB x (at0 ns t) (at0 ns s) p
  | _ => false
def mapsB (t : D) (p : Int) (as : List D) (ns : List Int) : Bool := match t with
  | .tuple xs => decide (xs.length = as.length) && (zipD xs as).all (mapB p ns)
  | _ => false
theorem maps_is (t : D) (p : Int) (as : List D) (ns : List Int) (ha : ∀ a ∈ as, arrowB a ns.length = true) (hl : as.length ≤ 5) (hs : Sz 2 t) :
    f_are_maps [.val t, .val (.int p), .val (.tuple as), .val (.tuple (ns.map PyData.int))] = some (.rt (.val (.bool (mapsB t p as ns))) [.val t, .val (.int p), .val (.tuple as), .val (.tuple (ns.map PyData.int))]) := by
  refine (fun ⟨ρ', h⟩ => chk_of (ds := [t, .int p, .tuple as, .tuple (ns.map PyData.int)]) (n := 7) (mb := m_are_maps) (ρ' := ρ') h : (∃ ρ', m_are_maps [.val t, .val (.int p), .val (.tuple as), .val (.tuple (ns.map PyData.int)), .un, .un, .un] = some (.rt (.val (.bool (mapsB t p as ns))) ρ')) → _) ?_
  have hix := fun i h => ix_ints (ns := ns) (i := i) h
  generalize hD : PyData.tuple (ns.map PyData.int) = dims at hix
  rcases tup_or t with ⟨xs, rfl⟩ | ht
  · have hx : xs.length ≤ 1000000 := hs.1
    have hy : as.length ≤ 1000000 := by omega
    have t1 : mTru (mUn (fTyNe "tuple") (mVar 0)) [.val (.tuple xs), .val (.int p), .val (.tuple as), .val dims, .un, .un, .un] = some (.ok false [.val (.tuple xs), .val (.int p), .val (.tuple as), .val dims, .un, .un, .un]) := by simp [runF, mSeq, mSet, mRet, mIf, mSkip, mExpr, mUnp, mOp, mUn, mVar, mC, mTru, mtAnd, mtOr, mtNot, mOr, mAnd, mNot, mIfE, mChain, mYes, mCall, insOf, refsOf, back, mConsV, mConsR, mNilA, mTup, mLst, valsA, Res.bind, rd, esc, putR, free_eq, fr, fAdd, fCatT, fCatL, fCatS, fMul, fRepT, fMod, fDiv, fSub, fPow, fOr, fI, fLt, fLe, fGt, fGe, fIx, atI, itemsD, fLen, truD, truG, truth, giveR, left, keepS, mPutL, mApp, gN, gTL, gsCons, gsNil, ixN, big, fTyNe, tyN]
    have t2 : mTru (mOp fNe (mUn fLen (mVar 0)) (mUn fLen (mVar 2))) [.val (.tuple xs), .val (.int p), .val (.tuple as), .val dims, .un, .un, .un] = some (.ok (!decide ((xs.length : Int) = (as.length : Int))) [.val (.tuple xs), .val (.int p), .val (.tuple as), .val dims, .un, .un, .un]) := by simp [runF, mSeq, mSet, mRet, mIf, mSkip, mExpr, mUnp, mOp, mUn, mVar, mC, mTru, mtAnd, mtOr, mtNot, mOr, mAnd, mNot, mIfE, mChain, mYes, mCall, insOf, refsOf, back, mConsV, mConsR, mNilA, mTup, mLst, valsA, Res.bind, rd, esc, putR, free_eq, fr, fAdd, fCatT, fCatL, fCatS, fMul, fRepT, fMod, fDiv, fSub, fPow, fOr, fI, fLt, fLe, fGt, fGe, fIx, atI, itemsD, fLen, truD, truG, truth, giveR, left, keepS, mPutL, mApp, gN, gTL, gsCons, gsNil, ixN, big, ne_ints]
    unfold m_are_maps
    by_cases h1 : xs.length = as.length
    · have h1' : (xs.length : Int) = (as.length : Int) := by omega
      rw [seq_nx (ρ1 := [.val (.tuple xs), .val (.int p), .val (.tuple as), .val dims, .un, .un, .un]) (by rw [if_f (by rw [tor_f t1, t2, decide_eq_true h1']; rfl)]; rfl)]
      have hlc := mLc_many (vs := [4, 5, 6]) (it := Pi.iZip (mConsV (mVar 0) (mConsV (mVar 2) mNilA))) (g := gTL (gsCons (gN 4) (gsCons (gTL (gsCons (gN 5) (gsCons (gN 6) gsNil))) gsNil))) (e := E1_are_maps) (f := fun d => .bool (mapB p ns d))
        (ρ := [.val (.tuple xs), .val (.int p), .val (.tuple as), .val dims, .un, .un, .un]) (ρ1 := [.val (.tuple xs), .val (.int p), .val (.tuple as), .val dims, .un, .un, .un]) (ds := zipD xs as)
        (by simp [runF, mSeq, mSet, mRet, mIf, mSkip, mExpr, mUnp, mOp, mUn, mVar, mC, mTru, mtAnd, mtOr, mtNot, mOr, mAnd, mNot, mIfE, mChain, mYes, mCall, insOf, refsOf, back, mConsV, mConsR, mNilA, mTup, mLst, valsA, Res.bind, rd, esc, putR, free_eq, fr, fAdd, fCatT, fCatL, fCatS, fMul, fRepT, fMod, fDiv, fSub, fPow, fOr, fI, fLt, fLe, fGt, fGe, fIx, atI, itemsD, fLen, truD, truG, truth, giveR, left, keepS, mPutL, mApp, gN, gTL, gsCons, gsNil, ixN, big, Pi.iZip, hx, hy]) (by rw [zipD_len]; show min xs.length as.length ≤ 1000000; omega) rfl (fun d hd => by
          obtain ⟨j, hj⟩ := List.getElem?_of_mem hd
          obtain ⟨x, a, e1, e2, rfl⟩ := zipD_get hj
          obtain ⟨s, t, rfl, s1, s2, s3, s4⟩ := arrow_out (ha a (List.mem_of_getElem? e2))
          refine ⟨[.val (.tuple xs), .val (.int p), .val (.tuple as), .val dims, .val x, .val (.int s), .val (.int t)], _, by simp [runF, mSeq, mSet, mRet, mIf, mSkip, mExpr, mUnp, mOp, mUn, mVar, mC, mTru, mtAnd, mtOr, mtNot, mOr, mAnd, mNot, mIfE, mChain, mYes, mCall, insOf, refsOf, back, mConsV, mConsR, mNilA, mTup, mLst, valsA, Res.bind, rd, esc, putR, free_eq, fr, fAdd, fCatT, fCatL, fCatS, fMul, fRepT, fMod, fDiv, fSub, fPow, fOr, fI, fLt, fLe, fGt, fGe, fIx, atI, itemsD, fLen, truD, truG, truth, giveR, left, keepS, mPutL, mApp, gN, gTL, gsCons, gsNil, ixN, big, wipeE], call_of (ds := [x, .int (at0 ns t), .int (at0 ns s), .int p]) (by
            have i1 := hix t ⟨s3, s4⟩
            have i2 := hix s ⟨s1, s2⟩
            have o1 : mOp fIx (mVar 3) (mVar 6) [.val (.tuple xs), .val (.int p), .val (.tuple as), .val dims, .val x, .val (.int s), .val (.int t)] = some (.ok (.val (.int (at0 ns t))) [.val (.tuple xs), .val (.int p), .val (.tuple as), .val dims, .val x, .val (.int s), .val (.int t)]) := op_of rfl rfl i1
            have o2 : mOp fIx (mVar 3) (mVar 5) [.val (.tuple xs), .val (.int p), .val (.tuple as), .val dims, .val x, .val (.int s), .val (.int t)] = some (.ok (.val (.int (at0 ns s))) [.val (.tuple xs), .val (.int p), .val (.tuple as), .val dims, .val x, .val (.int s), .val (.int t)]) := op_of rfl rfl i2
            exact consV_of rfl rfl (consV_of o1 rfl (consV_of o2 rfl (consV_of rfl rfl rfl)))) (matrix_is x _ _ p (hs.2 x (List.mem_of_getElem? e1))) rfl (fun _ z => nomatch z), rfl, by simp [wipeE], rfl⟩)
      refine ⟨_, ret_of (un_of hlc rfl ?_)⟩
      rw [all_map]
      simp [mapsB, h1]
    · have h1' : ¬ (xs.length : Int) = (as.length : Int) := by omega
      rw [seq_rt (by rw [if_t (by rw [tor_f t1, t2, decide_eq_false h1']; rfl)]; rfl)]
      exact ⟨_, by simp [mapsB, h1]; exact rfl⟩
  · have t1 : mTru (mUn (fTyNe "tuple") (mVar 0)) [.val t, .val (.int p), .val (.tuple as), .val dims, .un, .un, .un] = some (.ok true [.val t, .val (.int p), .val (.tuple as), .val dims, .un, .un, .un]) := by simp [runF, mSeq, mSet, mRet, mIf, mSkip, mExpr, mUnp, mOp, mUn, mVar, mC, mTru, mtAnd, mtOr, mtNot, mOr, mAnd, mNot, mIfE, mChain, mYes, mCall, insOf, refsOf, back, mConsV, mConsR, mNilA, mTup, mLst, valsA, Res.bind, rd, esc, putR, free_eq, fr, fAdd, fCatT, fCatL, fCatS, fMul, fRepT, fMod, fDiv, fSub, fPow, fOr, fI, fLt, fLe, fGt, fGe, fIx, atI, itemsD, fLen, truD, truG, truth, giveR, left, keepS, mPutL, mApp, gN, gTL, gsCons, gsNil, ixN, big, fTyNe, ht]
    have e3 : mapsB t p as ns = false := by cases t <;> first | rfl | exact absurd rfl ht
    unfold m_are_maps
    rw [seq_rt (by rw [if_t (tor_t t1)]; rfl), e3]
    exact ⟨_, rfl⟩
/-! ### a module -/
def intOf : D → Int
  | .int i => i
  | _ => 0
theorem intOf_map (ns : List Int) : (ns.map PyData.int).map intOf = ns := by rw [List.map_map]; exact List.map_id'' (fun _ => rfl) ns
def primeB (p : D) : Bool := match p with
  | .int p => decide (p = 2 ∨ p = 3 ∨ p = 5 ∨ p = 7 ∨ p = 11 ∨ p = 13)
  | _ => false
def restB (p as ds ms : D) : Bool := dimsB ds && (arrowsB as (lenD ds) && mapsB ms (intOf p) (itemsOf as) ((itemsOf ds).map intOf))
def modB (d : D) : Bool := match d with
  | .tuple [p, as, ds, ms] => primeB p && restB p as ds ms
  | _ => false
theorem modB_len {xs : List D} (h : xs.length ≠ 4) : modB (.tuple xs) = false := by
  match xs, h with
  | [], _ => rfl
  | [_], _ => rfl
  | [_, _], _ => rfl
  | [_, _, _], _ => rfl
  | [_, _, _, _], h => exact absurd rfl h
  | _ :: _ :: _ :: _ :: _ :: _, _ => rfl
theorem prime_is (p : D) : f_is_prime [.val p] = some (.rt (.val (.bool (primeB p))) [.val p]) := by
  refine chk_of (ds := [p]) (n := 1) (mb := m_is_prime) (ρ' := [.val p]) ?_
  show mRet (mAnd (mUn (fTyEq "int") (mVar 0)) (mOp (fIn false) (mVar 0) (mC c_PRIMES))) [.val p] = _
  refine ret_of ?_
  have t : mUn (fTyEq "int") (mVar 0) [.val p] = some (.ok (.val (.bool (decide (tyN p = "int")))) [.val p]) := un_of rfl rfl rfl
  cases p with
  | int p =>
    have h : fIn false (.int p) c_PRIMES = some (.val (.bool (primeB (.int p)))) := by
      simp only [fIn, itemsD, flatD, List.all_cons, List.all_nil, List.any_cons, List.any_nil, eqv_int, primeB]
      have e : (decide ((2 : Int) = p) || (decide ((3 : Int) = p) || (decide ((5 : Int) = p) || (decide ((7 : Int) = p) || (decide ((11 : Int) = p) || (decide ((13 : Int) = p) || false)))))) = decide (p = 2 ∨ p = 3 ∨ p = 5 ∨ p = 7 ∨ p = 11 ∨ p = 13) := by
        rw [Bool.eq_iff_iff]
        simp only [Bool.or_eq_true, decide_eq_true_eq, Bool.false_eq_true, or_false]
        constructor <;> (intro h; omega)
      rw [e]
      simp
    rw [and_t (ρ1 := [.val (.int p)]) (by rw [t]; rfl)]
    exact op_of rfl rfl h
  | _ => exact and_f (by rw [t]; rfl)
theorem module_is (d : D) (hs : Sz 3 d) : f_is_module [.val d] = some (.rt (.val (.bool (modB d))) [.val d]) := by
  refine (fun ⟨ρ', h⟩ => chk_of (ds := [d]) (n := 5) (mb := m_is_module) (ρ' := ρ') h : (∃ ρ', m_is_module [.val d, .un, .un, .un, .un] = some (.rt (.val (.bool (modB d))) ρ')) → _) ?_
  rcases tup_or d with ⟨xs, rfl⟩ | ht
  · have t1 : mTru (mUn (fTyNe "tuple") (mVar 0)) [.val (.tuple xs), .un, .un, .un, .un] = some (.ok false [.val (.tuple xs), .un, .un, .un, .un]) := by simp [runF, mSeq, mSet, mRet, mIf, mSkip, mExpr, mUnp, mOp, mUn, mVar, mC, mTru, mtAnd, mtOr, mtNot, mOr, mAnd, mNot, mIfE, mChain, mYes, mCall, insOf, refsOf, back, mConsV, mConsR, mNilA, mTup, mLst, valsA, Res.bind, rd, esc, putR, free_eq, fr, fAdd, fCatT, fCatL, fCatS, fMul, fRepT, fMod, fDiv, fSub, fPow, fOr, fI, fLt, fLe, fGt, fGe, fIx, atI, itemsD, fLen, truD, truG, truth, giveR, left, keepS, mPutL, mApp, gN, gTL, gsCons, gsNil, ixN, big, fTyNe, tyN]
    have t2 : mTru (mOp fNe (mUn fLen (mVar 0)) (mC (.int 4))) [.val (.tuple xs), .un, .un, .un, .un] = some (.ok (!decide ((xs.length : Int) = 4)) [.val (.tuple xs), .un, .un, .un, .un]) := by simp [runF, mSeq, mSet, mRet, mIf, mSkip, mExpr, mUnp, mOp, mUn, mVar, mC, mTru, mtAnd, mtOr, mtNot, mOr, mAnd, mNot, mIfE, mChain, mYes, mCall, insOf, refsOf, back, mConsV, mConsR, mNilA, mTup, mLst, valsA, Res.bind, rd, esc, putR, free_eq, fr, fAdd, fCatT, fCatL, fCatS, fMul, fRepT, fMod, fDiv, fSub, fPow, fOr, fI, fLt, fLe, fGt, fGe, fIx, atI, itemsD, fLen, truD, truG, truth, giveR, left, keepS, mPutL, mApp, gN, gTL, gsCons, gsNil, ixN, big, ne_ints]
    unfold m_is_module
    by_cases h1 : xs.length = 4
    · have h1' : (xs.length : Int) = 4 := by omega
      rw [seq_nx (ρ1 := [.val (.tuple xs), .un, .un, .un, .un]) (by rw [if_f (by rw [tor_f t1, t2, decide_eq_true h1']; rfl)]; rfl)]
      match xs, h1, hs with
      | [p, as, ds, ms], _, hs =>
        have s1 : Sz 2 as := hs.2 as (by simp [itemsOf])
        have s2 : Sz 2 ds := hs.2 ds (by simp [itemsOf])
        have s3 : Sz 2 ms := hs.2 ms (by simp [itemsOf])
        rw [seq_nx (ρ1 := [.val (.tuple [p, as, ds, ms]), .val p, .val as, .val ds, .val ms]) (by simp [runF, mSeq, mSet, mRet, mIf, mSkip, mExpr, mUnp, mOp, mUn, mVar, mC, mTru, mtAnd, mtOr, mtNot, mOr, mAnd, mNot, mIfE, mChain, mYes, mCall, insOf, refsOf, back, mConsV, mConsR, mNilA, mTup, mLst, valsA, Res.bind, rd, esc, putR, free_eq, fr, fAdd, fCatT, fCatL, fCatS, fMul, fRepT, fMod, fDiv, fSub, fPow, fOr, fI, fLt, fLe, fGt, fGe, fIx, atI, itemsD, fLen, truD, truG, truth, giveR, left, keepS, mPutL, mApp, gN, gTL, gsCons, gsNil, ixN, big])]
        generalize hd : PyData.tuple [p, as, ds, ms] = d
        have e0 : modB d = (primeB p && restB p as ds ms) := by rw [← hd]; rfl
        rw [e0]
        have c0 : mTru (mCall f_is_prime (mConsV (mVar 1) mNilA)) [.val d, .val p, .val as, .val ds, .val ms] = some (.ok (primeB p) [.val d, .val p, .val as, .val ds, .val ms]) :=
          tru_of_ok (call_of (ds := [p]) (consV_of rfl rfl rfl) (prime_is p) rfl (fun _ z => nomatch z)) rfl rfl
        cases hp : primeB p with
        | false =>
          rw [seq_rt (by rw [if_t (tor_t (by rw [tnot_of c0, hp]; rfl))]; rfl)]
          exact ⟨_, rfl⟩
        | true =>
          have ⟨pi, ep⟩ : ∃ i : Int, p = .int i := by
            cases p with
            | int i => exact ⟨i, rfl⟩
            | _ => cases hp
          subst ep
          simp only [Bool.true_and]
          have n0 : mtNot (mTru (mCall f_is_prime (mConsV (mVar 1) mNilA))) [.val d, .val (.int pi), .val as, .val ds, .val ms] = some (.ok false [.val d, .val (.int pi), .val as, .val ds, .val ms]) := by
            rw [tnot_of c0, hp]; rfl
          have c1 : mTru (mCall f_are_dims (mConsV (mVar 3) mNilA)) [.val d, .val (.int pi), .val as, .val ds, .val ms] = some (.ok (dimsB ds) [.val d, .val (.int pi), .val as, .val ds, .val ms]) :=
            tru_of_ok (call_of (ds := [ds]) (consV_of rfl rfl rfl) (dims_is ds s2.len) rfl (fun _ z => nomatch z)) rfl rfl
          cases hdm : dimsB ds with
          | false =>
            rw [seq_rt (by rw [if_t (by rw [tor_f n0]; exact tor_t (by rw [tnot_of c1, hdm]; rfl))]; rfl)]
            exact ⟨[.val d, .val (.int pi), .val as, .val ds, .val ms], by simp [restB, hdm]⟩
          | true =>
            have ⟨ns, en⟩ : ∃ ns : List Int, ds = .tuple (ns.map PyData.int) := by
              cases ds with
              | tuple ys =>
                simp only [dimsB, Bool.and_eq_true] at hdm
                obtain ⟨ns, e, _⟩ := all_nn hdm.2.1
                exact ⟨ns, by rw [e]⟩
              | _ => cases hdm
            subst en
            have n1 : mtNot (mTru (mCall f_are_dims (mConsV (mVar 3) mNilA))) [.val d, .val (.int pi), .val as, .val (.tuple (ns.map PyData.int)), .val ms] = some (.ok false [.val d, .val (.int pi), .val as, .val (.tuple (ns.map PyData.int)), .val ms]) := by
              rw [tnot_of c1, hdm]; rfl
            have lenE : mUn fLen (mVar 3) [.val d, .val (.int pi), .val as, .val (.tuple (ns.map PyData.int)), .val ms] = some (.ok (.val (.int (ns.length : Int))) [.val d, .val (.int pi), .val as, .val (.tuple (ns.map PyData.int)), .val ms]) := un_of rfl rfl (by simp [fLen])
            have c2 : mTru (mCall f_are_arrows (mConsV (mVar 2) (mConsV (mUn fLen (mVar 3)) mNilA))) [.val d, .val (.int pi), .val as, .val (.tuple (ns.map PyData.int)), .val ms] = some (.ok (arrowsB as ns.length) [.val d, .val (.int pi), .val as, .val (.tuple (ns.map PyData.int)), .val ms]) :=
              tru_of_ok (call_of (ds := [as, .int (ns.length : Int)]) (consV_of rfl rfl (consV_of lenE rfl rfl)) (arrows_is as _ ⟨s1.1, fun x hx => (s1.2 x hx).1⟩) rfl (fun _ z => nomatch z)) rfl rfl
            cases har : arrowsB as ns.length with
            | false =>
              rw [seq_rt (by rw [if_t (by rw [tor_f n0, tor_f n1]; rw [tnot_of c2, har]; rfl)]; rfl)]
              exact ⟨[.val d, .val (.int pi), .val as, .val (.tuple (ns.map PyData.int)), .val ms], by simp [restB, hdm, lenD, har]⟩
            | true =>
              rw [seq_nx (by rw [if_f (by rw [tor_f n0, tor_f n1]; rw [tnot_of c2, har]; rfl)]; rfl)]
              refine ⟨[.val d, .val (.int pi), .val as, .val (.tuple (ns.map PyData.int)), .val ms], ret_of ?_⟩
              have ⟨ar, ea, h5, hall⟩ : ∃ ar : List D, as = .tuple ar ∧ ar.length ≤ 5 ∧ ∀ a ∈ ar, arrowB a ns.length = true := by
                cases as with
                | tuple ar =>
                  simp only [arrowsB, Bool.and_eq_true, decide_eq_true_eq, List.all_eq_true] at har
                  exact ⟨ar, rfl, har.1, har.2⟩
                | _ => cases har
              subst ea
              rw [call_of (ds := [ms, .int pi, .tuple ar, .tuple (ns.map PyData.int)]) (consV_of rfl rfl (consV_of rfl rfl (consV_of rfl rfl (consV_of rfl rfl rfl)))) (maps_is ms pi ar ns hall h5 s3) rfl (fun _ z => nomatch z)]
              simp [restB, hdm, lenD, har, itemsOf, intOf, Function.comp_def]
    · have h1' : ¬ (xs.length : Int) = 4 := by omega
      rw [seq_rt (by rw [if_t (by rw [tor_f t1, t2, decide_eq_false h1']; rfl)]; rfl), modB_len h1]
      exact ⟨_, rfl⟩
  · have t1 : mTru (mUn (fTyNe "tuple") (mVar 0)) [.val d, .un, .un, .un, .un] = some (.ok true [.val d, .un, .un, .un, .un]) := by simp [runF, mSeq, mSet, mRet, mIf, mSkip, mExpr, mUnp, mOp, mUn, mVar, mC, mTru, mtAnd, mtOr, mtNot, mOr, mAnd, mNot, mIfE, mChain, mYes, mCall, insOf, refsOf, back, mConsV, mConsR, mNilA, mTup, mLst, valsA, Res.bind, rd, esc, putR, free_eq, fr, fAdd, fCatT, fCatL, fCatS, fMul, fRepT, fMod, fDiv, fSub, fPow, fOr, fI, fLt, fLe, fGt, fGe, fIx, atI, itemsD, fLen, truD, truG, truth, giveR, left, keepS, mPutL, mApp, gN, gTL, gsCons, gsNil, ixN, big, fTyNe, ht]
    have e3 : modB d = false := by cases d <;> first | rfl | exact absurd rfl ht
    unfold m_is_module
    rw [seq_rt (by rw [if_t (tor_t t1)]; rfl), e3]
    exact ⟨_, rfl⟩
theorem check_ok (d : D) (hs : Sz 3 d) (h : modB d = true) : f_check_module [.val d] = some (.rt (.val .none) [.val d]) := by
  have c : mTru (mCall f_is_module (mConsV (mVar 0) mNilA)) [.val d] = some (.ok true [.val d]) :=
    tru_of_ok (call_of (ds := [d]) (consV_of rfl rfl rfl) (module_is d hs) rfl (fun _ z => nomatch z)) rfl (by rw [h]; rfl)
  have e : m_check_module [.val d] = some (.nx [.val d]) := by
    unfold m_check_module
    rw [if_f (tnot_of c)]
    rfl
  exact run_nx (n := 1) (ins := [.val d]) (mb := m_check_module) e
theorem check_no (d : D) (hs : Sz 3 d) (h : modB d = false) : f_check_module [.val d] = some (.ex 1 [.val d]) := by
  have c : mTru (mCall f_is_module (mConsV (mVar 0) mNilA)) [.val d] = some (.ok false [.val d]) :=
    tru_of_ok (call_of (ds := [d]) (consV_of rfl rfl rfl) (module_is d hs) rfl (fun _ z => nomatch z)) rfl (by rw [h]; rfl)
  have e : m_check_module [.val d] = some (.ex 1 [.val d]) := by
    unfold m_check_module
    rw [if_t (tnot_of c)]
    rfl
  exact run_ex (n := 1) (ins := [.val d]) (mb := m_check_module) e
theorem call_ex {f : Pi.Env → Option Out} {a : MA} {ρ ρ1 outs : Pi.Env} {ds : List D} {c : Nat} (h : a ρ = some (.ok (ds.map AV.val) ρ1)) (hf : f (ds.map Slot.val) = some (.ex c outs)) (ho : outs.length = ds.length) : mCall f a ρ = some (.ex c ρ1) := by
  simp only [mCall, h, Res.bind, ins_vals, refs_vals, List.nodup_nil, if_true, hf, back_vals ds outs ho, Option.map_some]
end K02
set_option maxRecDepth 100000
set_option maxHeartbeats 1000000
namespace K02
open PySem PySem.Spec PyProof.Rows L2 Pi
/-! what the law's own helpers give -/
/-- .. -/
def step (number k : Int) : Int := (number * 48271 + k * 69621 + 12345) % 2147483647
def mixd (number k : Int) : Int := (step number k * (step number k / 65536 + 3) + k) % 2147483647
theorem cMul_c (i : Int) (j : Int) (h : -(2 ^ 64) < j ∧ j < 2 ^ 64) : cMul i j = true := decide_eq_true (.inr h)
theorem cMul_l (i : Int) (j : Int) (h : -(2 ^ 64) < i ∧ i < 2 ^ 64) : cMul i j = true := decide_eq_true (.inl h)
theorem step_lt (n k : Int) : 0 ≤ step n k ∧ step n k < 2147483647 := ⟨Int.emod_nonneg _ (by decide), Int.emod_lt_of_pos _ (by decide)⟩
theorem mixd_nn (n k : Int) : 0 ≤ mixd n k := Int.emod_nonneg _ (by decide)
theorem mixed_is (a k : Int) : f__law_mixed [.val (.int a), .val (.int k)] = some (.rt (.val (.int (mixd a k))) [.val (.int a), .val (.int k)]) := by
  have h1 : cMul a 48271 = true := cMul_c _ _ (by decide)
  have h2 : cMul k 69621 = true := cMul_c _ _ (by decide)
  have h3 : cMul (step a k) (step a k / 65536 + 3) = true := cMul_l _ _ (by have := step_lt a k; omega)
  unfold step at h3
  simp [runF, mSeq, mSet, mRet, mIf, mSkip, mExpr, mUnp, mOp, mUn, mVar, mC, mTru, mtAnd, mtOr, mtNot, mOr, mAnd, mNot, mIfE, mChain, mYes, mCall, insOf, refsOf, back, mConsV, mConsR, mNilA, mTup, mLst, valsA, Res.bind, rd, esc, putR, free_eq, fr, fAdd, fCatT, fCatL, fCatS, fMul, fRepT, fMod, fDiv, fSub, fPow, fOr, fI, fLt, fLe, fGt, fGe, fIx, atI, itemsD, fLen, truD, truG, truth, giveR, left, keepS, mPutL, mApp, gN, gTL, gsCons, gsNil, ixN, big, f__law_mixed, m__law_mixed, h1, h2, h3, mixd, step]
theorem mixed_call {a k : M} {ρ ρ1 ρ2 : Pi.Env} {x y : Int} (h1 : a ρ = some (.ok (.val (.int x)) ρ1)) (h2 : k ρ1 = some (.ok (.val (.int y)) ρ2)) : mCall f__law_mixed (mConsV a (mConsV k mNilA)) ρ = some (.ok (.val (.int (mixd x y))) ρ2) :=
  call_of (ds := [.int x, .int y]) (consV_of h1 rfl (consV_of h2 rfl rfl)) (mixed_is x y) rfl (fun _ z => nomatch z)
/-- a draw -/
def drw (xs : List Int) (at_ : Nat) : Int := match xs[at_]? with
  | some x => x
  | none => mixd (mixd (match xs with | [] => 1 + (at_ : Int) | x :: _ => 1 + (at_ : Int) + 1009 * x) at_) 5 % 1000000
def St (xs : List Int) (at_ : Nat) : D := .list [.list (xs.map PyData.int), .int at_]
theorem ix_St0 (xs : List Int) (n : Nat) : fIx (St xs n) (.int 0) = some (.val (.list (xs.map PyData.int))) := rfl
theorem ix_St1 (xs : List Int) (n : Nat) : fIx (St xs n) (.int 1) = some (.val (.int n)) := rfl
theorem ix_list {ns : List Int} {i : Nat} {x : Int} (h : ns[i]? = some x) : fIx (.list (ns.map PyData.int)) (.int (i : Nat)) = some (.val (.int x)) := by
  have hi : i < ns.length := (List.getElem?_eq_some_iff.mp h).1
  have h1 : ixN ns.length (i : Nat) = some i := by
    unfold ixN
    rw [if_pos (by omega), if_pos (by omega)]
    simp
  simp only [fIx, itemsD, atI, List.length_map, h1, Option.bind_some, List.getElem?_map, h, Option.map_some]
theorem draw_run (xs : List Int) (n : Nat) : ∃ ρ', m__law_draw [.own (St xs n) true, .un, .un] = some (.rt (.val (.int (drw xs n))) ρ') ∧ left [.own (St xs n) true] ρ' = [.own (St xs (n + 1)) true] := by
  unfold m__law_draw
  rw [seq_nx (set_of (op_rd rfl rfl rfl rfl (ix_St1 xs n)) rfl)]
  rw [seq_nx (ρ1 := [.own (St xs (n + 1)) true, .val (.int n), .un]) (putL_of (i := 0) (ρ3 := [.own (St xs n) true, .val (.int n), .un]) (l := [.list (xs.map PyData.int), .int (n : Nat)]) (ds := [.list (xs.map PyData.int), .int (n : Nat)]) (b := true) (b' := true) (a := 1) (j := 1) (op_of (ρ1 := [.own (St xs n) true, .val (.int n), .un]) (ρ2 := [.own (St xs n) true, .val (.int n), .un]) rfl rfl (show fAdd (.int (n : Nat)) (.int 1) = some (.val (.int ((n + 1 : Nat) : Int))) from rfl)) rfl rfl rfl rfl rfl rfl)]
  have len0 : mUn fLen (mOp fIx (mVar 0) (mC (.int 0))) [.own (St xs (n + 1)) true, .val (.int n), .un] = some (.ok (.val (.int (xs.length : Int))) [.own (St xs (n + 1)) true, .val (.int n), .un]) :=
    un_of (op_rd rfl rfl rfl rfl (ix_St0 xs (n + 1))) rfl (by simp only [fLen, List.length_map])
  have t : ∀ b, decide ((n : Int) < (xs.length : Int)) = b → mTru (mOp fLt (mVar 1) (mUn fLen (mOp fIx (mVar 0) (mC (.int 0))))) [.own (St xs (n + 1)) true, .val (.int n), .un] = some (.ok b [.own (St xs (n + 1)) true, .val (.int n), .un]) := fun b hb => by
    subst hb
    exact tru_of_ok (op_of rfl len0 (show fLt (.int n) (.int xs.length) = some (.val (.bool (decide ((n : Int) < (xs.length : Int))))) from rfl)) rfl rfl
  by_cases h : n < xs.length
  · have e : xs[n]? = some xs[n] := List.getElem?_eq_getElem h
    have ed : drw xs n = xs[n] := by unfold drw; rw [e]
    rw [seq_rt (by rw [if_t (t true (decide_eq_true (by omega)))]; exact ret_of (op_rd (op_rd rfl rfl rfl rfl (ix_St0 xs (n + 1))) rfl rfl rfl (ix_list e))), ed]
    exact ⟨_, rfl, rfl⟩
  · have e : xs[n]? = none := List.getElem?_eq_none (by omega)
    rw [seq_nx (by rw [if_f (t false (decide_eq_false (by omega)))]; rfl)]
    rw [seq_nx (ρ1 := [.own (St xs (n + 1)) true, .val (.int n), .val (.int (1 + (n : Int)))]) (set_of (i := 2) (ρ1 := [.own (St xs (n + 1)) true, .val (.int n), .un]) (op_of rfl rfl (add_ints 1 (n : Nat))) rfl)]
    have len1 : ∀ s, mUn fLen (mOp fIx (mVar 0) (mC (.int 0))) [.own (St xs (n + 1)) true, .val (.int n), s] = some (.ok (.val (.int (xs.length : Int))) [.own (St xs (n + 1)) true, .val (.int n), s]) := fun s =>
      un_of (op_rd rfl rfl rfl rfl (ix_St0 xs (n + 1))) rfl (by simp only [fLen, List.length_map])
    have t2 : ∀ s b, decide ((0 : Int) < (xs.length : Int)) = b → mTru (mOp fGt (mUn fLen (mOp fIx (mVar 0) (mC (.int 0)))) (mC (.int 0))) [.own (St xs (n + 1)) true, .val (.int n), s] = some (.ok b [.own (St xs (n + 1)) true, .val (.int n), s]) := fun s b hb => by
      subst hb
      exact tru_of_ok (op_of (len1 s) rfl (show fGt (.int xs.length) (.int 0) = some (.val (.bool (decide ((0 : Int) < (xs.length : Int))))) from rfl)) rfl rfl
    have last : ∀ f : Int, mRet (mOp fMod (mCall f__law_mixed (mConsV (mCall f__law_mixed (mConsV (mVar 2) (mConsV (mVar 1) mNilA))) (mConsV (mC (.int 5)) mNilA))) (mC (.int 1000000))) [.own (St xs (n + 1)) true, .val (.int n), .val (.int f)] = some (.rt (.val (.int (mixd (mixd f n) 5 % 1000000))) [.own (St xs (n + 1)) true, .val (.int n), .val (.int f)]) := fun f =>
      ret_of (op_of (mixed_call (mixed_call rfl rfl) rfl) rfl (mod_ints (by decide)))
    cases xs with
    | nil =>
      rw [seq_nx (by rw [if_f (t2 _ false rfl)]; rfl)]
      exact ⟨_, last _, rfl⟩
    | cons x r =>
      rw [seq_nx (ρ1 := [.own (St (x :: r) (n + 1)) true, .val (.int n), .val (.int (1 + (n : Int) + 1009 * x))]) (by
        rw [if_t (t2 _ true (decide_eq_true (by simp)))]
        exact set_of (i := 2) (ρ1 := [.own (St (x :: r) (n + 1)) true, .val (.int n), .val (.int (1 + (n : Int)))]) (op_of rfl (op_of rfl (op_rd (op_rd rfl rfl rfl rfl (ix_St0 (x :: r) (n + 1))) rfl rfl rfl (ix_list (i := 0) (x := x) rfl)) (fI_mul (cMul_l 1009 x (by decide)))) (add_ints _ _)) rfl)]
      have ed : drw (x :: r) n = mixd (mixd (1 + (n : Int) + 1009 * x) n) 5 % 1000000 := by unfold drw; rw [e]
      rw [ed]
      exact ⟨_, last _, rfl⟩
theorem draw_is (xs : List Int) (n : Nat) : f__law_draw [.own (St xs n) true] = some (.rt (.val (.int (drw xs n))) [.own (St xs (n + 1)) true]) := by
  obtain ⟨ρ', h, hl⟩ := draw_run xs n
  have := run_rt (n := 3) (ins := [.own (St xs n) true]) (mb := m__law_draw) h rfl
  rw [hl] at this
  exact this
theorem drw_nn {xs : List Int} (h : ∀ x ∈ xs, 0 ≤ x) (n : Nat) : 0 ≤ drw xs n := by
  unfold drw
  split
  · rename_i x e; exact h x (List.mem_of_getElem? e)
  · exact Int.emod_nonneg _ (by decide)
theorem draw_at {ρ : Pi.Env} {xs : List Int} {n i : Nat} {b : Bool} (h : ρ[i]? = some (.own (St xs n) b)) : mCall f__law_draw (mConsR i mNilA) ρ = some (.ok (.val (.int (drw xs n))) (ρ.set i (.own (St xs (n + 1)) b))) := by
  simp [mCall, mConsR, h, mNilA, Res.bind, insOf, refsOf, draw_is, back]
/-! ### the numbers of a script -/
/-- slots: script, numbers, cell, rest, k -/
def NumI (ns : List Int) (c : Nat) (ρ : Pi.Env) : Prop := ∃ (ms : List Int) (x y z : Slot), ρ = [.val (.list (ns.map PyData.int)), .own (.list (ms.map PyData.int)) false, x, y, z] ∧ fr x = true ∧ fr y = true ∧ fr z = true ∧ (∀ m ∈ ms, 0 ≤ m) ∧ ms.length ≤ c
abbrev NE (ns ms : List Int) (x y z : Pi.Slot) : Pi.Env := [.val (.list (ns.map PyData.int)), .own (.list (ms.map PyData.int)) false, x, y, z]
theorem nn_app {ms : List Int} {r : Int} (h : ∀ m ∈ ms, 0 ≤ m) (hr : 0 ≤ r) : ∀ m ∈ ms ++ [r], 0 ≤ m := fun m hm => by
  rcases List.mem_append.mp hm with hm | hm
  · exact h m hm
  · rcases List.mem_singleton.mp hm with rfl; exact hr
theorem num_app {ns ms : List Int} {x y z : Pi.Slot} {m : M} {r : Int} (h : m (NE ns ms x y z) = some (.ok (.val (.int r)) (NE ns ms x y z))) (hl : ms.length < 1000000) : mExpr (mApp 1 m) (NE ns ms x y z) = some (.nx (NE ns (ms ++ [r]) x y z)) := by
  have := app_of (i := 1) (m := m) (ρ := NE ns ms x y z) (l := ms.map PyData.int) (b' := false) rfl h rfl (by rw [List.length_map]; exact hl)
  rw [this]
  simp [NE]
theorem num_turn1 {ns ms : List Int} {c r : Int} {j : Nat} (hl : ms.length < 1000000) : ∃ (ms' : List Int) (r' : Int), L1__law_numbers (NE ns ms (.val (.int c)) (.val (.int r)) (.val (.int (j : Nat)))) = some (.nx (NE ns ms' (.val (.int c)) (.val (.int r')) (.val (.int (j : Nat))))) ∧ ((∀ m ∈ ms, 0 ≤ m) → ∀ m ∈ ms', 0 ≤ m) ∧ ms'.length ≤ ms.length + 1 := by
  unfold L1__law_numbers
  have t : ∀ b, decide (0 < r) = b → mTru (mOp fGt (mVar 3) (mC (.int 0))) (NE ns ms (.val (.int c)) (.val (.int r)) (.val (.int (j : Nat)))) = some (.ok b (NE ns ms (.val (.int c)) (.val (.int r)) (.val (.int (j : Nat))))) := fun b hb => by
    subst hb
    exact tru_of_ok (op_of rfl rfl (show fGt (.int r) (.int 0) = some (.val (.bool (decide (0 < r)))) from rfl)) rfl rfl
  by_cases h : 0 < r
  · refine ⟨ms ++ [r % 1000000], r / 1000000, ?_, fun hn => nn_app hn (Int.emod_nonneg _ (by decide)), by simp⟩
    rw [if_t (t true (decide_eq_true h))]
    rw [seq_nx (num_app (op_of rfl rfl (show fMod (.int r) (.int 1000000) = some (.val (.int (r % 1000000))) from by simp [runF, mSeq, mSet, mRet, mIf, mSkip, mExpr, mUnp, mOp, mUn, mVar, mC, mTru, mtAnd, mtOr, mtNot, mOr, mAnd, mNot, mIfE, mChain, mYes, mCall, insOf, refsOf, back, mConsV, mConsR, mNilA, mTup, mLst, valsA, Res.bind, rd, esc, putR, free_eq, fr, fAdd, fCatT, fCatL, fCatS, fMul, fRepT, fMod, fDiv, fSub, fPow, fOr, fI, fLt, fLe, fGt, fGe, fIx, atI, itemsD, fLen, truD, truG, truth, giveR, left, keepS, mPutL, mApp, gN, gTL, gsCons, gsNil, ixN, big])) hl)]
    exact set_of (i := 3) (ρ1 := NE ns (ms ++ [r % 1000000]) (.val (.int c)) (.val (.int r)) (.val (.int (j : Nat)))) (op_of rfl rfl (div_ints (by decide))) rfl
  · refine ⟨ms, r, ?_, id, by omega⟩
    rw [if_f (t false (decide_eq_false h))]
    rfl
theorem num_turn2 {ns ms : List Int} {c : Int} {y : Pi.Slot} {j : Nat} (hl : ms.length < 1000000) : ∃ (r' : Int), 0 ≤ r' ∧ L2__law_numbers (NE ns ms (.val (.int c)) y (.val (.int (j : Nat)))) = some (.nx (NE ns (ms ++ [r']) (.val (.int c)) y (.val (.int (j : Nat))))) := by
  refine ⟨mixd (mixd (c % 2147483647) (j : Nat)) ((j : Nat) + 7) % 1000000, Int.emod_nonneg _ (by decide), ?_⟩
  unfold L2__law_numbers
  refine num_app (op_of (mixed_call (mixed_call (op_of rfl rfl (show fMod (.int c) (.int 2147483647) = some (.val (.int (c % 2147483647))) from by simp [runF, mSeq, mSet, mRet, mIf, mSkip, mExpr, mUnp, mOp, mUn, mVar, mC, mTru, mtAnd, mtOr, mtNot, mOr, mAnd, mNot, mIfE, mChain, mYes, mCall, insOf, refsOf, back, mConsV, mConsR, mNilA, mTup, mLst, valsA, Res.bind, rd, esc, putR, free_eq, fr, fAdd, fCatT, fCatL, fCatS, fMul, fRepT, fMod, fDiv, fSub, fPow, fOr, fI, fLt, fLe, fGt, fGe, fIx, atI, itemsD, fLen, truD, truG, truth, giveR, left, keepS, mPutL, mApp, gN, gTL, gsCons, gsNil, ixN, big])) rfl) (op_of rfl rfl (show fAdd (.int (j : Nat)) (.int 7) = some (.val (.int ((j : Nat) + 7))) from by simp [runF, mSeq, mSet, mRet, mIf, mSkip, mExpr, mUnp, mOp, mUn, mVar, mC, mTru, mtAnd, mtOr, mtNot, mOr, mAnd, mNot, mIfE, mChain, mYes, mCall, insOf, refsOf, back, mConsV, mConsR, mNilA, mTup, mLst, valsA, Res.bind, rd, esc, putR, free_eq, fr, fAdd, fCatT, fCatL, fCatS, fMul, fRepT, fMod, fDiv, fSub, fPow, fOr, fI, fLt, fLe, fGt, fGe, fIx, atI, itemsD, fLen, truD, truG, truth, giveR, left, keepS, mPutL, mApp, gN, gTL, gsCons, gsNil, ixN, big]))) rfl ?_) hl
  simp [runF, mSeq, mSet, mRet, mIf, mSkip, mExpr, mUnp, mOp, mUn, mVar, mC, mTru, mtAnd, mtOr, mtNot, mOr, mAnd, mNot, mIfE, mChain, mYes, mCall, insOf, refsOf, back, mConsV, mConsR, mNilA, mTup, mLst, valsA, Res.bind, rd, esc, putR, free_eq, fr, fAdd, fCatT, fCatL, fCatS, fMul, fRepT, fMod, fDiv, fSub, fPow, fOr, fI, fLt, fLe, fGt, fGe, fIx, atI, itemsD, fLen, truD, truG, truth, giveR, left, keepS, mPutL, mApp, gN, gTL, gsCons, gsNil, ixN, big]
theorem num_turn3 {ns ms : List Int} {c : Int} {y z : Pi.Slot} (hy : fr y = true) (hz : fr z = true) (hl : ms.length < 900000) : ∃ (ms' : List Int) (y' z' : Pi.Slot), L3__law_numbers (NE ns ms (.val (.int c)) y z) = some (.nx (NE ns ms' (.val (.int c)) y' z')) ∧ fr y' = true ∧ fr z' = true ∧ ((∀ m ∈ ms, 0 ≤ m) → ∀ m ∈ ms', 0 ≤ m) ∧ ms'.length ≤ ms.length + 60 := by
  unfold L3__law_numbers
  have t : ∀ b, decide ((1000000000000000000 : Int) ≤ c) = b → mTru (mOp fGe (mVar 2) (mOp fPow (mC (.int 10)) (mC (.int 18)))) (NE ns ms (.val (.int c)) y z) = some (.ok b (NE ns ms (.val (.int c)) y z)) := fun b hb => by
    subst hb
    exact tru_of_ok (op_of (q := .int 1000000000000000000) rfl rfl (show fGe (.int c) (.int 1000000000000000000) = some (.val (.bool (decide ((1000000000000000000 : Int) ≤ c)))) from rfl)) rfl rfl
  by_cases h : (1000000000000000000 : Int) ≤ c
  · rw [if_t (t true (decide_eq_true h))]
    rw [seq_nx (set_of (show mVar 2 _ = some (.ok (.val (.int c)) _) from rfl) (by rw [free_eq]; exact hy))]
    rw [for_of (rng_of 60 (by decide) rfl)]
    obtain ⟨ρ', e, ms', r', z', rfl, hz', hn', hl'⟩ := forL_all (g := gN 4) (body := L1__law_numbers) (fun i ρ => ∃ (ms' : List Int) (r' : Int) (z' : Pi.Slot), ρ = NE ns ms' (.val (.int c)) (.val (.int r')) z' ∧ fr z' = true ∧ ((∀ m ∈ ms, 0 ≤ m) → ∀ m ∈ ms', 0 ≤ m) ∧ ms'.length ≤ ms.length + i)
      ((List.range 60).map fun i => PyData.int (i : Nat)) 0 (NE ns ms (.val (.int c)) (.val (.int c)) z) ⟨ms, c, z, rfl, hz, id, by omega⟩ fun j d ρ hd hI => by
        obtain ⟨ms1, r1, z1, rfl, hz1, hn1, hl1⟩ := hI
        obtain ⟨hj, rfl⟩ := get_rng hd
        obtain ⟨ms2, r2, e2, hn2, hl2⟩ := num_turn1 (ns := ns) (ms := ms1) (c := c) (r := r1) (j := j) (by omega)
        exact ⟨_, gN_of (by rw [free_eq]; exact hz1), _, e2, ms2, r2, _, rfl, rfl, fun h => hn2 (hn1 h), by omega⟩
    exact ⟨ms', _, z', e, rfl, hz', hn', by simpa using hl'⟩
  · rw [if_f (t false (decide_eq_false h))]
    rw [seq_nx (num_app (op_of rfl rfl (show fMod (.int c) (.int 1000000) = some (.val (.int (c % 1000000))) from by simp [runF, mSeq, mSet, mRet, mIf, mSkip, mExpr, mUnp, mOp, mUn, mVar, mC, mTru, mtAnd, mtOr, mtNot, mOr, mAnd, mNot, mIfE, mChain, mYes, mCall, insOf, refsOf, back, mConsV, mConsR, mNilA, mTup, mLst, valsA, Res.bind, rd, esc, putR, free_eq, fr, fAdd, fCatT, fCatL, fCatS, fMul, fRepT, fMod, fDiv, fSub, fPow, fOr, fI, fLt, fLe, fGt, fGe, fIx, atI, itemsD, fLen, truD, truG, truth, giveR, left, keepS, mPutL, mApp, gN, gTL, gsCons, gsNil, ixN, big])) (by omega))]
    rw [for_of (rng_of 5 (by decide) rfl)]
    obtain ⟨ρ', e, ms', z', rfl, hz', hn', hl'⟩ := forL_all (g := gN 4) (body := L2__law_numbers) (fun i ρ => ∃ (ms' : List Int) (z' : Pi.Slot), ρ = NE ns ms' (.val (.int c)) y z' ∧ fr z' = true ∧ ((∀ m ∈ ms, 0 ≤ m) → ∀ m ∈ ms', 0 ≤ m) ∧ ms'.length ≤ ms.length + 1 + i)
      ((List.range 5).map fun i => PyData.int (i : Nat)) 0 (NE ns (ms ++ [c % 1000000]) (.val (.int c)) y z) ⟨_, z, rfl, hz, fun hn => nn_app hn (Int.emod_nonneg _ (by decide)), by simp⟩ fun j d ρ hd hI => by
        obtain ⟨ms1, z1, rfl, hz1, hn1, hl1⟩ := hI
        obtain ⟨hj, rfl⟩ := get_rng hd
        obtain ⟨r2, h2, e2⟩ := num_turn2 (ns := ns) (ms := ms1) (c := c) (y := y) (j := j) (by omega)
        exact ⟨_, gN_of (by rw [free_eq]; exact hz1), _, e2, _, _, rfl, rfl, fun h => nn_app (hn1 h) h2, by simp; omega⟩
    exact ⟨ms', y, z', e, hy, hz', hn', by simp at hl'; omega⟩
def NE' (ns : List Int) : Pi.Env := [.val (.list (ns.map PyData.int)), .un, .un, .un, .un]
theorem numbers_is (ns : List Int) (hl : ns.length ≤ 63) : ∃ (xs : List Int) (o : Pi.Env), (∀ x ∈ xs, 0 ≤ x) ∧ xs.length ≤ 4000 ∧ o.length = 1 ∧ f__law_numbers [.val (.list (ns.map PyData.int))] = some (.rt (.own (.list (xs.map PyData.int))) o) := by
  obtain ⟨ρ', e, ms, x, y, z, rfl, hx, hy, hz, hn, hm⟩ := forL_all (g := gN 2) (body := L3__law_numbers) (fun i ρ => ∃ (ms : List Int) (x y z : Pi.Slot), ρ = NE ns ms x y z ∧ fr x = true ∧ fr y = true ∧ fr z = true ∧ (∀ m ∈ ms, 0 ≤ m) ∧ ms.length ≤ 60 * i)
    (ns.map PyData.int) 0 (NE ns [] .un .un .un) ⟨[], .un, .un, .un, rfl, rfl, rfl, rfl, (fun m h => nomatch h), by simp⟩ fun j d ρ hd hI => by
      obtain ⟨ms, x, y, z, rfl, hx, hy, hz, hn, hm⟩ := hI
      obtain ⟨c, hc, rfl⟩ := get_ints hd
      have hj : j < ns.length := (List.getElem?_eq_some_iff.mp hc).1
      obtain ⟨ms', y', z', e, hy', hz', hn', hl'⟩ := num_turn3 (ns := ns) (ms := ms) (c := c) hy hz (by omega)
      exact ⟨_, gN_of (by rw [free_eq]; exact hx), _, e, ms', _, y', z', rfl, rfl, hy', hz', hn' hn, by omega⟩
  have big1 : ns.length ≤ 1000000 := by omega
  refine ⟨ms, _, hn, by simp at hm; omega, ?_, run_rt (n := 5) (ins := [.val (.list (ns.map PyData.int))]) (mb := m__law_numbers) (r := .slot 1) (ρ1 := NE ns ms x y z) ?_ rfl⟩
  · rfl
  · show m__law_numbers [.val (.list (ns.map PyData.int)), .un, .un, .un, .un] = _
    unfold m__law_numbers
    rw [seq_nx (setO_of (i := 1) (ρ1 := [.val (.list (ns.map PyData.int)), .un, .un, .un, .un]) (show mLst mNilA _ = some (.ok (.own (.list [])) _) from rfl) rfl)]
    rw [seq_nx (by rw [for_of (seq_it (m := mVar 0) (ds := ns.map PyData.int) rfl rfl (by rw [List.length_map]; exact big1))]; exact e)]
    exact ret_of rfl
end K02
set_option maxRecDepth 100000
set_option maxHeartbeats 2000000
namespace K02
open PySem PySem.Spec PyProof.Rows L2 Pi
/-! ### a kind -/
structure KindOk (p : Int) (as : List D) (sp : Int) : Prop where
  prime : primeB (.int p) = true
  low : 1 ≤ sp
  high : sp ≤ 4
  few : as.length ≤ 5
  arrows : ∀ a ∈ as, arrowB a sp = true
theorem mod_draw {ρ : Pi.Env} {xs : List Int} {n i : Nat} {b : Bool} {k : Int} (hk : 0 < k) (h : ρ[i]? = some (.own (St xs n) b)) : mOp fMod (mCall f__law_draw (mConsR i mNilA)) (mC (.int k)) ρ = some (.ok (.val (.int (drw xs n % k))) (ρ.set i (.own (St xs (n + 1)) b))) :=
  op_of (draw_at h) rfl (mod_ints hk)
def pr (a b : Int) : D := .tuple [.int a, .int b]
def shp : List D := [.tuple [pr 0 1, pr 0 1], .tuple [pr 0 1, pr 0 1], .tuple [pr 0 1], .tuple [pr 0 0, pr 0 0], .tuple [pr 0 1, pr 1 0], .tuple [pr 0 2, pr 1 2], .tuple [pr 0 1, pr 1 2, pr 0 2], .tuple [pr 0 1, pr 0 1, pr 0 1], .tuple [pr 0 3, pr 1 3, pr 2 3], .tuple [pr 0 0], .tuple []]
theorem shape_of (d : D) (h : d ∈ shp) (s0 s1 s2 s3 s5 s6 : Pi.Slot) : ∃ as sp, d = .tuple as ∧ 1 ≤ sp ∧ sp ≤ 4 ∧ as.length ≤ 5 ∧ (∀ a ∈ as, arrowB a sp = true) ∧
    mOp fAdd (mC (.int 1)) (mUn fMax (mOp fAdd (mLst (mConsV (mC (.int 0)) mNilA)) (mLc (Pi.iSeq (mVar 4)) (gN 7) mYes E1__law_kind [7]))) [s0, s1, s2, s3, .val d, s5, s6, .un] = some (.ok (.val (.int sp)) [s0, s1, s2, s3, .val d, s5, s6, .un]) := by
  simp only [shp, List.mem_cons, List.not_mem_nil, or_false] at h
  rcases h with rfl | rfl | rfl | rfl | rfl | rfl | rfl | rfl | rfl | rfl | rfl
  · exact ⟨_, 2, rfl, by decide, by decide, by decide, by decide, rfl⟩
  · exact ⟨_, 2, rfl, by decide, by decide, by decide, by decide, rfl⟩
  · exact ⟨_, 2, rfl, by decide, by decide, by decide, by decide, rfl⟩
  · exact ⟨_, 1, rfl, by decide, by decide, by decide, by decide, rfl⟩
  · exact ⟨_, 2, rfl, by decide, by decide, by decide, by decide, rfl⟩
  · exact ⟨_, 3, rfl, by decide, by decide, by decide, by decide, rfl⟩
  · exact ⟨_, 3, rfl, by decide, by decide, by decide, by decide, rfl⟩
  · exact ⟨_, 2, rfl, by decide, by decide, by decide, by decide, rfl⟩
  · exact ⟨_, 4, rfl, by decide, by decide, by decide, by decide, rfl⟩
  · exact ⟨_, 1, rfl, by decide, by decide, by decide, by decide, rfl⟩
  · exact ⟨_, 1, rfl, by decide, by decide, by decide, by decide, rfl⟩
theorem mod_rng (x k : Int) (hk : 0 < k) : 0 ≤ x % k ∧ x % k < k := ⟨Int.emod_nonneg _ (by omega), Int.emod_lt_of_pos _ hk⟩
theorem pick_draw {ds : List D} {m : M} {ρ : Pi.Env} {xs : List Int} {n i : Nat} {b : Bool} {k : Int} (hm : m ρ = some (.ok (.own (.list ds)) ρ)) (hk : (ds.length : Int) = k) (h0 : 0 < k) (h : ρ[i]? = some (.own (St xs n) b)) :
    ∃ d, d ∈ ds ∧ mOp fIx m (mOp fMod (mCall f__law_draw (mConsR i mNilA)) (mC (.int k))) ρ = some (.ok (.val d) (ρ.set i (.own (St xs (n + 1)) b))) := by
  have r := mod_rng (drw xs n) k h0
  obtain ⟨d, hd, e⟩ := ix_any (ds := ds) (i := drw xs n % k) (by omega)
  exact ⟨d, hd, op_rd hm (mod_draw h0 h) rfl rfl e⟩
def KE (xs : List Int) (n : Nat) (s1 s2 s3 s4 s5 s6 s7 : Pi.Slot) : Pi.Env := [.own (St xs n) true, s1, s2, s3, s4, s5, s6, s7]
theorem kind_run (xs : List Int) (n : Nat) : ∃ (n' : Nat) (p : Int) (as : List D) (sp : Int) (ρ' : Pi.Env) (r : RV), KindOk p as sp ∧ m__law_kind [.own (St xs n) true, .un, .un, .un, .un, .un, .un, .un] = some (.rt (.own (.list [.int p, .tuple as, .int sp])) ρ') ∧ left [.own (St xs n) true] ρ' = [.own (St xs n') true] := by
  unfold m__law_kind
  rw [seq_nx (ρ1 := [.own (St xs n) true, .own (.list shp) false, .un, .un, .un, .un, .un, .un]) (setO_of (i := 1) (ρ1 := [.own (St xs n) true, .un, .un, .un, .un, .un, .un, .un]) rfl rfl)]
  obtain ⟨pd, hp, ep⟩ := pick_draw (m := mLst (mConsV (mC (.int 2)) (mConsV (mC (.int 2)) (mConsV (mC (.int 3)) (mConsV (mC (.int 3)) (mConsV (mC (.int 5)) (mConsV (mC (.int 7)) (mConsV (mC (.int 11)) (mConsV (mC (.int 13)) mNilA)))))))))
    (ρ := [.own (St xs n) true, .own (.list shp) false, .un, .un, .un, .un, .un, .un]) (xs := xs) (n := n) (i := 0) (b := true) (k := 8) (ds := [.int 2, .int 2, .int 3, .int 3, .int 5, .int 7, .int 11, .int 13]) rfl rfl (by decide) rfl
  have ⟨p, epd, hpr⟩ : ∃ p : Int, pd = .int p ∧ primeB (.int p) = true := by
    simp only [List.mem_cons, List.not_mem_nil, or_false] at hp
    rcases hp with rfl | rfl | rfl | rfl | rfl | rfl | rfl | rfl <;> exact ⟨_, rfl, by decide⟩
  subst epd
  rw [seq_nx (ρ1 := [.own (St xs (n + 1)) true, .own (.list shp) false, .val (.int p), .un, .un, .un, .un, .un]) (set_of (i := 2) (ρ1 := [.own (St xs (n + 1)) true, .own (.list shp) false, .un, .un, .un, .un, .un, .un]) ep rfl)]
  rw [seq_nx (ρ1 := [.own (St xs (n + 2)) true, .own (.list shp) false, .val (.int p), .val (.int (drw xs (n + 1) % 13)), .un, .un, .un, .un])
    (set_of (i := 3) (ρ1 := [.own (St xs (n + 2)) true, .own (.list shp) false, .val (.int p), .un, .un, .un, .un, .un]) (mod_draw (xs := xs) (n := n + 1) (i := 0) (b := true) (by decide) rfl) rfl)]
  have r3 := mod_rng (drw xs (n + 1)) 13 (by decide)
  generalize drw xs (n + 1) % 13 = k at r3
  have t : ∀ b, decide (k < 11) = b → mTru (mOp fLt (mVar 3) (mC (.int 11))) [.own (St xs (n + 2)) true, .own (.list shp) false, .val (.int p), .val (.int k), .un, .un, .un, .un] = some (.ok b [.own (St xs (n + 2)) true, .own (.list shp) false, .val (.int p), .val (.int k), .un, .un, .un, .un]) := fun b hb => by
    subst hb
    exact tru_of_ok (op_of rfl rfl (lt_ints k 11)) rfl rfl
  by_cases hk : k < 11
  · obtain ⟨d, hd, ed⟩ := ix_any (ds := shp) (i := k) ⟨r3.1, by show k < 11; exact hk⟩
    obtain ⟨as, sp, rfl, h1, h2, h3, h4, h5⟩ := shape_of d hd (.own (St xs (n + 2)) true) (.own (.list shp) false) (.val (.int p)) (.val (.int k)) .un .un
    refine ⟨n + 2, p, as, sp, [.own (St xs (n + 2)) true, .own (.list shp) false, .val (.int p), .val (.int k), .val (.tuple as), .un, .un, .un], .val .none, ⟨hpr, h1, h2, h3, h4⟩, ?_, rfl⟩
    refine seq_rt ?_
    rw [if_t (t true (decide_eq_true hk))]
    rw [seq_nx (ρ1 := [.own (St xs (n + 2)) true, .own (.list shp) false, .val (.int p), .val (.int k), .val (.tuple as), .un, .un, .un]) (set_of (i := 4) (ρ1 := [.own (St xs (n + 2)) true, .own (.list shp) false, .val (.int p), .val (.int k), .un, .un, .un, .un]) (op_rd rfl rfl rfl rfl ed) rfl)]
    exact ret_of (lst_of (consV_of rfl rfl (consV_of rfl rfl (consV_of h5 rfl rfl))) rfl (by simp))
  · rw [seq_nx (ρ1 := [.own (St xs (n + 2)) true, .own (.list shp) false, .val (.int p), .val (.int k), .un, .un, .un, .un]) (by rw [if_f (t false (decide_eq_false hk))]; rfl)]
    have r4 := mod_rng (drw xs (n + 2)) 4 (by decide)
    rw [seq_nx (ρ1 := [.own (St xs (n + 3)) true, .own (.list shp) false, .val (.int p), .val (.int k), .un, .val (.int (1 + drw xs (n + 2) % 4)), .un, .un])
      (set_of (i := 5) (ρ1 := [.own (St xs (n + 3)) true, .own (.list shp) false, .val (.int p), .val (.int k), .un, .un, .un, .un]) (op_of rfl (mod_draw (xs := xs) (n := n + 2) (i := 0) (b := true) (by decide) rfl) (add_ints _ _)) rfl)]
    have hsp : 1 ≤ 1 + drw xs (n + 2) % 4 ∧ 1 + drw xs (n + 2) % 4 ≤ 4 := by omega
    generalize 1 + drw xs (n + 2) % 4 = sp at hsp ⊢
    have r6 := mod_rng (drw xs (n + 3)) 6 (by decide)
    obtain ⟨q, hq⟩ : ∃ q : Nat, drw xs (n + 3) % 6 = (q : Int) := ⟨(drw xs (n + 3) % 6).toNat, by omega⟩
    have hq6 : q < 6 := by omega
    obtain ⟨acc, ρ2, el, m, s6, rfl, hs6, hacc, hall⟩ := lcL_ind (g := gN 6) (e := E2__law_kind) (vs := [6]) (fun i acc ρ => ∃ (m : Nat) (s6 : Pi.Slot), ρ = [.own (St xs m) true, .own (.list shp) false, .val (.int p), .val (.int k), .un, .val (.int sp), s6, .un] ∧ vf s6 = true ∧ acc.length = i ∧ ∀ a ∈ acc, arrowB a sp = true)
      ((List.range q).map fun i => PyData.int (i : Nat)) 0 [] [.own (St xs (n + 4)) true, .own (.list shp) false, .val (.int p), .val (.int k), .un, .val (.int sp), .un, .un] ⟨n + 4, .un, rfl, rfl, rfl, fun a h => nomatch h⟩ fun j d acc ρ hd hI => by
        obtain ⟨m, s6, rfl, h6, hl, ha⟩ := hI
        obtain ⟨hj, rfl⟩ := get_rng hd
        refine ⟨frees1 (s := s6) rfl h6, [.own (St xs m) true, .own (.list shp) false, .val (.int p), .val (.int k), .un, .val (.int sp), .val (.int (j : Nat)), .un], .val (pr (drw xs m % sp) (drw xs (m + 1) % sp)), [.own (St xs (m + 2)) true, .own (.list shp) false, .val (.int p), .val (.int k), .un, .val (.int sp), .val (.int (j : Nat)), .un], _, _, rfl, ?_, rfl, m + 2, _, rfl, rfl, by simp [hl], ?_⟩
        · have e1 : mOp fMod (mCall f__law_draw (mConsR 0 mNilA)) (mVar 5) [.own (St xs m) true, .own (.list shp) false, .val (.int p), .val (.int k), .un, .val (.int sp), .val (.int (j : Nat)), .un] = some (.ok (.val (.int (drw xs m % sp))) [.own (St xs (m + 1)) true, .own (.list shp) false, .val (.int p), .val (.int k), .un, .val (.int sp), .val (.int (j : Nat)), .un]) := op_of (draw_at rfl) rfl (mod_ints (by omega))
          have e2 : mOp fMod (mCall f__law_draw (mConsR 0 mNilA)) (mVar 5) [.own (St xs (m + 1)) true, .own (.list shp) false, .val (.int p), .val (.int k), .un, .val (.int sp), .val (.int (j : Nat)), .un] = some (.ok (.val (.int (drw xs (m + 1) % sp))) [.own (St xs (m + 2)) true, .own (.list shp) false, .val (.int p), .val (.int k), .un, .val (.int sp), .val (.int (j : Nat)), .un]) := op_of (draw_at rfl) rfl (mod_ints (by omega))
          unfold E2__law_kind
          exact tup_of (consV_of e1 rfl (consV_of e2 rfl rfl)) rfl (by simp)
        · intro a ha'
          rcases List.mem_append.mp ha' with h | h
          · exact ha a h
          · rcases List.mem_singleton.mp h with rfl
            have q1 := mod_rng (drw xs m) sp (by omega)
            have q2 := mod_rng (drw xs (m + 1)) sp (by omega)
            simp [arrowB, pr, inR, q1, q2]
    have elc := mLc_end (it := Pi.iRng1 (mOp fMod (mCall f__law_draw (mConsR 0 mNilA)) (mC (.int 6)))) (ρ := [.own (St xs (n + 3)) true, .own (.list shp) false, .val (.int p), .val (.int k), .un, .val (.int sp), .un, .un])
      (rng_of q (by omega) (by rw [← hq]; exact mod_draw (xs := xs) (n := n + 3) (i := 0) (b := true) (by decide) rfl)) (by simp; omega) rfl el (frees1 (s := s6) rfl hs6)
    rw [seq_nx (ρ1 := [.own (St xs m) true, .own (.list shp) false, .val (.int p), .val (.int k), .own (.list acc) false, .val (.int sp), .un, .un]) (setO_of (i := 4) (ρ1 := [.own (St xs m) true, .own (.list shp) false, .val (.int p), .val (.int k), .un, .val (.int sp), .un, .un]) elc rfl)]
    have hl6 : acc.length ≤ 5 := by simp at hacc; omega
    refine ⟨m, p, acc, sp, _, .val .none, ⟨hpr, hsp.1, hsp.2, hl6, hall⟩, ret_of (lst_of (consV_of rfl rfl (consV_of (un_of (p := .list acc) rfl rfl (show fTuple (.list acc) = some (.val (.tuple acc)) from rfl)) rfl (consV_of rfl rfl rfl))) rfl (by simp)), rfl⟩
theorem kind_is (xs : List Int) (n : Nat) : ∃ (n' : Nat) (p : Int) (as : List D) (sp : Int), KindOk p as sp ∧ f__law_kind [.own (St xs n) true] = some (.rt (.own (.list [.int p, .tuple as, .int sp])) [.own (St xs n') true]) := by
  obtain ⟨n', p, as, sp, ρ', _, hk, h, hl⟩ := kind_run xs n
  have := run_rt (n := 8) (ins := [.own (St xs n) true]) (mb := m__law_kind) h rfl
  rw [hl] at this
  exact ⟨n', p, as, sp, hk, this⟩
end K02
set_option maxRecDepth 100000
set_option maxHeartbeats 2000000
namespace K02
open PySem PySem.Spec PyProof.Rows L2 Pi
/-! ### dims -/
theorem sum_set1 : ∀ {ns : List Int} {v : Nat} {x : Int}, ns[v]? = some x → (ns.set v (x + 1)).sum = ns.sum + 1
  | [], v, x, h => by simp at h
  | a :: r, 0, x, h => by simp at h; subst h; simp; omega
  | a :: r, v + 1, x, h => by
    have := sum_set1 (ns := r) (v := v) (x := x) (by simpa using h)
    simp only [List.set_cons_succ, List.sum_cons, this]
    omega
theorem nn_set {ns : List Int} {v : Nat} {x : Int} (h : ∀ m ∈ ns, 0 ≤ m) (hx : 0 ≤ x) : ∀ m ∈ ns.set v x, 0 ≤ m := fun m hm => by
  rcases List.mem_or_eq_of_mem_set hm with h' | h'
  · exact h m h'
  · rw [h']; exact hx
def DE (xs : List Int) (n : Nat) (sp : Nat) (mo : Int) (ns : List Int) (k v : Pi.Slot) : Pi.Env := [.own (St xs n) true, .val (.int (sp : Nat)), .val (.int mo), .own (.list (ns.map PyData.int)) false, k, v]
theorem dims_turn {xs : List Int} {n sp : Nat} {mo : Int} {ns : List Int} {k v : Pi.Slot} (hl : ns.length = sp) (hs : sp ≤ 4) (hv : fr v = true) (hn : ∀ m ∈ ns, 0 ≤ m) : ∃ (ns' : List Int) (v' : Pi.Slot), L1__law_dims (DE xs n sp mo ns k v) = some (.nx (DE xs (n + 1) sp mo ns' k v')) ∧ fr v' = true ∧ ns'.length = sp ∧ (∀ m ∈ ns', 0 ≤ m) ∧ ns'.sum ≤ ns.sum + 1 := by
  unfold L1__law_dims
  have r := mod_rng (drw xs n) ((sp : Int) + 1) (by omega)
  obtain ⟨q, hq⟩ : ∃ q : Nat, drw xs n % ((sp : Int) + 1) = (q : Int) := ⟨(drw xs n % ((sp : Int) + 1)).toNat, by omega⟩
  have e1 : mOp fMod (mCall f__law_draw (mConsR 0 mNilA)) (mOp fAdd (mVar 1) (mC (.int 1))) (DE xs n sp mo ns k v) = some (.ok (.val (.int (q : Nat))) (DE xs (n + 1) sp mo ns k v)) := by
    rw [← hq]
    exact op_of (draw_at (xs := xs) (n := n) (b := true) rfl) (op_of rfl rfl (add_ints _ _)) (mod_ints (by omega))
  rw [seq_nx (ρ1 := DE xs (n + 1) sp mo ns k (.val (.int (q : Nat)))) (set_of (i := 5) (ρ1 := DE xs (n + 1) sp mo ns k v) e1 (by rw [free_eq]; exact hv))]
  have t : ∀ b, decide ((q : Int) < (sp : Int)) = b → mTru (mOp fLt (mVar 5) (mVar 1)) (DE xs (n + 1) sp mo ns k (.val (.int (q : Nat)))) = some (.ok b (DE xs (n + 1) sp mo ns k (.val (.int (q : Nat))))) := fun b hb => by
    subst hb
    exact tru_of_ok (op_of rfl rfl (lt_ints _ _)) rfl rfl
  by_cases h : q < sp
  · have hlt : q < ns.length := by omega
    have ex : ns[q]? = some ns[q] := List.getElem?_eq_getElem hlt
    refine ⟨ns.set q (ns[q] + 1), .val (.int (q : Nat)), ?_, rfl, by simp [hl], nn_set hn (by have := hn ns[q] (List.getElem_mem hlt); omega), by rw [sum_set1 ex]; omega⟩
    rw [if_t (t true (decide_eq_true (by omega)))]
    have hj : ixN (ns.map PyData.int).length ((q : Nat) : Int) = some q := by
      rw [List.length_map]
      unfold ixN
      rw [if_pos (by omega), if_pos (by omega)]
      simp
    have := putL_of (i := 3) (k := mVar 5) (m := mOp fAdd (mOp fIx (mVar 3) (mVar 5)) (mC (.int 1))) (ρ := DE xs (n + 1) sp mo ns k (.val (.int (q : Nat)))) (ρ1 := DE xs (n + 1) sp mo ns k (.val (.int (q : Nat)))) (ρ2 := DE xs (n + 1) sp mo ns k (.val (.int (q : Nat)))) (ρ3 := DE xs (n + 1) sp mo ns k (.val (.int (q : Nat))))
      (l := ns.map PyData.int) (ds := ns.map PyData.int) (b := false) (b' := false) (a := (q : Nat)) (j := q) (op_of (op_rd rfl rfl rfl rfl (ix_list ex)) rfl (add_ints _ _)) rfl rfl rfl rfl rfl hj
    rw [this]
    simp [DE, List.map_set]
  · refine ⟨ns, .val (.int (q : Nat)), ?_, rfl, hl, hn, by omega⟩
    rw [if_f (t false (decide_eq_false (by omega)))]
    rfl
theorem zeros_nn (k : Nat) : (∀ m ∈ List.replicate k (0 : Int), 0 ≤ m) ∧ (List.replicate k (0 : Int)).sum = 0 := by
  constructor
  · intro m hm; rw [(List.mem_replicate.mp hm).2]; exact Int.le_refl 0
  · induction k with
    | zero => rfl
    | succ k ih => simp [List.replicate_succ, ih]
theorem ldims_run (xs : List Int) (n sp mo : Nat) (hs : sp ≤ 4) (hm : mo ≤ 100) : ∃ (n' : Nat) (ns : List Int) (ρ' : Pi.Env), m__law_dims [.own (St xs n) true, .val (.int (sp : Nat)), .val (.int (mo : Nat)), .un, .un, .un] = some (.rt (.val (.tuple (ns.map PyData.int))) ρ') ∧
    left [.own (St xs n) true, .val (.int (sp : Nat)), .val (.int (mo : Nat))] ρ' = [.own (St xs n') true, .val (.int (sp : Nat)), .val (.int (mo : Nat))] ∧ ns.length = sp ∧ (∀ m ∈ ns, 0 ≤ m) ∧ ns.sum ≤ mo := by
  unfold m__law_dims
  have hz : ((List.range sp).map fun i => PyData.int (i : Nat)).map (fun _ => PyData.int 0) = (List.replicate sp (0 : Int)).map PyData.int := by
    rw [List.map_map, List.map_replicate]
    apply List.ext_getElem <;> simp
  have elc := mLc_map (i := 5) (it := Pi.iRng1 (mVar 1)) (e := mC (.int 0)) (f := fun _ => .int 0) (ρ := [.own (St xs n) true, .val (.int (sp : Nat)), .val (.int (mo : Nat)), .un, .un, .un]) (rng_of sp (by omega) rfl) (by simp [big]; omega) rfl (fun d _ => ⟨_, rfl, rfl⟩)
  rw [hz] at elc
  rw [seq_nx (ρ1 := DE xs n sp mo (List.replicate sp 0) .un .un) (setO_of (i := 3) (ρ1 := [.own (St xs n) true, .val (.int (sp : Nat)), .val (.int (mo : Nat)), .un, .un, .un]) elc rfl)]
  obtain ⟨ρ', e, n', ns, k, v, rfl, hk, hv, hl, hn, hsum⟩ := forL_all (g := gN 4) (body := L1__law_dims) (fun i ρ => ∃ (n' : Nat) (ns : List Int) (k v : Pi.Slot), ρ = DE xs n' sp mo ns k v ∧ fr k = true ∧ fr v = true ∧ ns.length = sp ∧ (∀ m ∈ ns, 0 ≤ m) ∧ ns.sum ≤ (i : Int))
    ((List.range mo).map fun i => PyData.int (i : Nat)) 0 (DE xs n sp mo (List.replicate sp 0) .un .un) ⟨n, _, .un, .un, rfl, rfl, rfl, by simp, (zeros_nn sp).1, by rw [(zeros_nn sp).2]; exact Int.le_refl 0⟩ fun j d ρ hd hI => by
      obtain ⟨n1, ns1, k1, v1, rfl, hk1, hv1, hl1, hn1, hs1⟩ := hI
      obtain ⟨hj, rfl⟩ := get_rng hd
      obtain ⟨ns2, v2, e2, hv2, hl2, hn2, hs2⟩ := dims_turn (xs := xs) (n := n1) (sp := sp) (mo := mo) (ns := ns1) (k := .val (.int (j : Nat))) (v := v1) hl1 hs hv1 hn1
      exact ⟨_, gN_of (by rw [free_eq]; exact hk1), _, e2, n1 + 1, ns2, _, v2, rfl, rfl, hv2, hl2, hn2, by omega⟩
  rw [seq_nx (by rw [for_of (rng_of mo (by omega) rfl)]; exact e)]
  exact ⟨n', ns, _, ret_of (un_of (p := .list (ns.map PyData.int)) rfl rfl rfl), rfl, hl, hn, by simpa using hsum⟩
theorem ldims_is (xs : List Int) (n sp mo : Nat) (hs : sp ≤ 4) (hm : mo ≤ 100) : ∃ (n' : Nat) (ns : List Int), f__law_dims [.own (St xs n) true, .val (.int (sp : Nat)), .val (.int (mo : Nat))] = some (.rt (.val (.tuple (ns.map PyData.int))) [.own (St xs n') true, .val (.int (sp : Nat)), .val (.int (mo : Nat))]) ∧ ns.length = sp ∧ (∀ m ∈ ns, 0 ≤ m) ∧ ns.sum ≤ mo := by
  obtain ⟨n', ns, ρ', h, hl, h1, h2, h3⟩ := ldims_run xs n sp mo hs hm
  have := run_rt (n := 6) (ins := [.own (St xs n) true, .val (.int (sp : Nat)), .val (.int (mo : Nat))]) (mb := m__law_dims) h rfl
  rw [hl] at this
  exact ⟨n', ns, this, h1, h2, h3⟩
end K02
set_option maxRecDepth 100000
set_option maxHeartbeats 2000000
namespace K02
open PySem PySem.Spec PyProof.Rows L2 Pi
/-! ### a matrix -/
/-- slots: draws, p, rows, columns, kind, found, i, row, j -/
def ME (xs : List Int) (n : Nat) (p r c k : Int) (fo : List D) (i : Pi.Slot) (row : Pi.Slot) (j : Pi.Slot) : Pi.Env := [.own (St xs n) true, .val (.int p), .val (.int r), .val (.int c), .val (.int k), .own (.list fo) false, i, row, j]
def intL (ns : List Int) : List D := ns.map PyData.int
def okP (p : Int) (ns : List Int) : Prop := ∀ m ∈ ns, 0 ≤ m ∧ m < p
theorem okP_app {p : Int} {ns : List Int} {x : Int} (h : okP p ns) (h1 : 0 ≤ x) (h2 : x < p) : okP p (ns ++ [x]) := fun m hm => by
  rcases List.mem_append.mp hm with hm | hm
  · exact h m hm
  · rcases List.mem_singleton.mp hm with rfl; exact ⟨h1, h2⟩
theorem mat_app {xs : List Int} {n n' : Nat} {p r c k : Int} {fo : List D} {i j : Pi.Slot} {ns : List Int} {m : M} {x : Int} (h : m (ME xs n p r c k fo i (.own (.list (intL ns)) false) j) = some (.ok (.val (.int x)) (ME xs n' p r c k fo i (.own (.list (intL ns)) false) j))) (hl : ns.length < 1000000) :
    mExpr (mApp 7 m) (ME xs n p r c k fo i (.own (.list (intL ns)) false) j) = some (.nx (ME xs n' p r c k fo i (.own (.list (intL (ns ++ [x]))) false) j)) := by
  have := app_of (i := 7) (m := m) (ρ := ME xs n p r c k fo i (.own (.list (intL ns)) false) j) (ρ1 := ME xs n' p r c k fo i (.own (.list (intL ns)) false) j) (l := intL ns) (ds := intL ns) (b := false) (b' := false) rfl h rfl (by simp [intL]; exact hl)
  rw [this]
  simp [ME, intL]
theorem mat_turn {xs : List Int} {n : Nat} {p r c k : Int} {fo : List D} {a : Int} {b : Nat} {ns : List Int} (hp : 2 ≤ p) (hn : okP p ns) (hl : ns.length < 1000000) : ∃ (n' : Nat) (x : Int), 0 ≤ x ∧ x < p ∧
    L1__law_matrix (ME xs n p r c k fo (.val (.int a)) (.own (.list (intL ns)) false) (.val (.int (b : Nat)))) = some (.nx (ME xs n' p r c k fo (.val (.int a)) (.own (.list (intL (ns ++ [x]))) false) (.val (.int (b : Nat))))) := by
  unfold L1__law_matrix
  have t : ∀ (q : Int) (v : Bool), decide (k = q) = v → mTru (mOp fEq (mVar 4) (mC (.int q))) (ME xs n p r c k fo (.val (.int a)) (.own (.list (intL ns)) false) (.val (.int (b : Nat)))) = some (.ok v (ME xs n p r c k fo (.val (.int a)) (.own (.list (intL ns)) false) (.val (.int (b : Nat))))) := fun q v hv => by
    subst hv
    exact tru_of_ok (op_of rfl rfl (eq_ints k q)) rfl rfl
  by_cases h0 : k = 0
  · refine ⟨n, if decide (a = (b : Int)) = true then 1 else 0, ?_, ?_, ?_⟩
    · split <;> omega
    · split <;> omega
    · rw [if_t (t 0 true (decide_eq_true h0))]
      exact mat_app (un_of (op_of rfl rfl (eq_ints a b)) rfl rfl) hl
  · rw [if_f (t 0 false (decide_eq_false h0))]
    by_cases h1 : k = 1
    · have q := mod_rng (drw xs n) p (by omega)
      refine ⟨n + 1, drw xs n % p, q.1, q.2, ?_⟩
      rw [if_t (t 1 true (decide_eq_true h1))]
      exact mat_app (op_of (draw_at (xs := xs) (n := n) (b := true) rfl) rfl (mod_ints (by omega))) hl
    · rw [if_f (t 1 false (decide_eq_false h1))]
      have q := mod_rng (drw xs n) p (by omega)
      have q4 := mod_rng (drw xs (n + 1)) 4 (by decide)
      have em : mOp fMod (mCall f__law_draw (mConsR 0 mNilA)) (mVar 1) (ME xs n p r c k fo (.val (.int a)) (.own (.list (intL ns)) false) (.val (.int (b : Nat)))) = some (.ok (.val (.int (drw xs n % p))) (ME xs (n + 1) p r c k fo (.val (.int a)) (.own (.list (intL ns)) false) (.val (.int (b : Nat))))) :=
        op_of (draw_at (xs := xs) (n := n) (b := true) rfl) rfl (mod_ints (by omega))
      have el : mLst (mConsV (mC (.int 0)) (mConsV (mC (.int 0)) (mConsV (mC (.int 1)) (mConsV (mOp fMod (mCall f__law_draw (mConsR 0 mNilA)) (mVar 1)) mNilA)))) (ME xs n p r c k fo (.val (.int a)) (.own (.list (intL ns)) false) (.val (.int (b : Nat)))) = some (.ok (.own (.list [.int 0, .int 0, .int 1, .int (drw xs n % p)])) (ME xs (n + 1) p r c k fo (.val (.int a)) (.own (.list (intL ns)) false) (.val (.int (b : Nat))))) :=
        lst_of (consV_of rfl rfl (consV_of rfl rfl (consV_of rfl rfl (consV_of em rfl rfl)))) rfl (by simp)
      obtain ⟨d, hd, ed⟩ := ix_any (ds := [.int 0, .int 0, .int 1, .int (drw xs n % p)]) (i := drw xs (n + 1) % 4) (by simpa using q4)
      have ⟨x, ex, hx⟩ : ∃ x : Int, d = .int x ∧ 0 ≤ x ∧ x < p := by
        simp only [List.mem_cons, List.not_mem_nil, or_false] at hd
        rcases hd with rfl | rfl | rfl | rfl
        · exact ⟨0, rfl, by omega, by omega⟩
        · exact ⟨0, rfl, by omega, by omega⟩
        · exact ⟨1, rfl, by omega, by omega⟩
        · exact ⟨_, rfl, q.1, q.2⟩
      subst ex
      refine ⟨n + 2, x, hx.1, hx.2, ?_⟩
      exact mat_app (op_rd el (mod_draw (xs := xs) (n := n + 1) (b := true) (by decide) rfl) rfl rfl ed) hl
/-- a row of c numbers -/
def RowOk (p : Int) (c : Nat) (d : D) : Prop := ∃ ns : List Int, d = .tuple (intL ns) ∧ ns.length = c ∧ okP p ns
theorem mat_row {xs : List Int} {n : Nat} {p r : Int} {c : Nat} {k : Int} {fo : List D} {a : Int} {row j : Pi.Slot} (hp : 2 ≤ p) (hc : c ≤ 1000) (hf : fo.length < 1000000) (hr : fr row = true) (hj : fr j = true) : ∃ (n' : Nat) (d : D) (row' j' : Pi.Slot), RowOk p c d ∧ fr row' = true ∧ fr j' = true ∧
    L2__law_matrix (ME xs n p r c k fo (.val (.int a)) row j) = some (.nx (ME xs n' p r c k (fo ++ [d]) (.val (.int a)) row' j')) := by
  unfold L2__law_matrix
  rw [seq_nx (ρ1 := ME xs n p r c k fo (.val (.int a)) (.own (.list (intL [])) false) j) (setO_of (i := 7) (ρ1 := ME xs n p r c k fo (.val (.int a)) row j) rfl (by rw [free_eq]; exact hr))]
  obtain ⟨ρ', e, n', ns, j', rfl, hj', hl, hn⟩ := forL_all (g := gN 8) (body := L1__law_matrix) (fun i ρ => ∃ (n' : Nat) (ns : List Int) (j' : Pi.Slot), ρ = ME xs n' p r c k fo (.val (.int a)) (.own (.list (intL ns)) false) j' ∧ fr j' = true ∧ ns.length = i ∧ okP p ns)
    ((List.range c).map fun i => PyData.int (i : Nat)) 0 (ME xs n p r c k fo (.val (.int a)) (.own (.list (intL [])) false) j) ⟨n, [], j, rfl, hj, rfl, fun m h => nomatch h⟩ fun i d ρ hd hI => by
      obtain ⟨n1, ns1, j1, rfl, hj1, hl1, hn1⟩ := hI
      obtain ⟨hi, rfl⟩ := get_rng hd
      obtain ⟨n2, x, h1, h2, e2⟩ := mat_turn (xs := xs) (n := n1) (p := p) (r := r) (c := c) (k := k) (fo := fo) (a := a) (b := i) hp hn1 (by omega)
      exact ⟨_, gN_of (by rw [free_eq]; exact hj1), _, e2, n2, _, _, rfl, rfl, by simp [hl1], okP_app hn1 h1 h2⟩
  rw [seq_nx (by rw [for_of (rng_of c (by omega) rfl)]; exact e)]
  refine ⟨n', .tuple (intL ns), .own (.list (intL ns)) false, j', ⟨ns, rfl, by simpa using hl, hn⟩, rfl, hj', ?_⟩
  exact app_of (i := 5) (ρ1 := ME xs n' p r c k fo (.val (.int a)) (.own (.list (intL ns)) false) j') (l := fo) (ds := fo) (b := false) (b' := false) rfl (un_of (p := .list (intL ns)) rfl rfl rfl) rfl hf
theorem row_ok {p : Int} {c : Nat} {d : D} (h : RowOk p c d) : rowB d c p = true := by
  obtain ⟨ns, rfl, hl, hn⟩ := h
  show (decide (((ns.map PyData.int).length : Int) = c) && (ns.map PyData.int).all (inR p)) = true
  rw [inR_ints, List.length_map, hl]
  simp only [decide_true, Bool.true_and, List.all_eq_true, decide_eq_true_eq]
  exact hn
theorem matrix_run (xs : List Int) (n : Nat) (p : Int) (r c : Nat) (hp : 2 ≤ p) (hr : r ≤ 1000) (hc : c ≤ 1000) : ∃ (n' : Nat) (fo : List D) (ρ' : Pi.Env), m__law_matrix [.own (St xs n) true, .val (.int p), .val (.int (r : Nat)), .val (.int (c : Nat)), .un, .un, .un, .un, .un] = some (.rt (.val (.tuple fo)) ρ') ∧
    left [.own (St xs n) true, .val (.int p), .val (.int (r : Nat)), .val (.int (c : Nat))] ρ' = [.own (St xs n') true, .val (.int p), .val (.int (r : Nat)), .val (.int (c : Nat))] ∧ fo.length = r ∧ ∀ d ∈ fo, RowOk p c d := by
  unfold m__law_matrix
  rw [seq_nx (ρ1 := [.own (St xs (n + 1)) true, .val (.int p), .val (.int (r : Nat)), .val (.int (c : Nat)), .val (.int (drw xs n % 4)), .un, .un, .un, .un])
    (set_of (i := 4) (ρ1 := [.own (St xs (n + 1)) true, .val (.int p), .val (.int (r : Nat)), .val (.int (c : Nat)), .un, .un, .un, .un, .un]) (mod_draw (xs := xs) (n := n) (b := true) (by decide) rfl) rfl)]
  generalize drw xs n % 4 = k
  rw [seq_nx (ρ1 := ME xs (n + 1) p r c k [] .un .un .un) (setO_of (i := 5) (ρ1 := [.own (St xs (n + 1)) true, .val (.int p), .val (.int (r : Nat)), .val (.int (c : Nat)), .val (.int k), .un, .un, .un, .un]) rfl rfl)]
  obtain ⟨ρ', e, n', fo, i', row, j', rfl, h1, h2, h3, hl, hn⟩ := forL_all (g := gN 6) (body := L2__law_matrix) (fun i ρ => ∃ (n' : Nat) (fo : List D) (i' row j' : Pi.Slot), ρ = ME xs n' p r c k fo i' row j' ∧ fr i' = true ∧ fr row = true ∧ fr j' = true ∧ fo.length = i ∧ ∀ d ∈ fo, RowOk p c d)
    ((List.range r).map fun i => PyData.int (i : Nat)) 0 (ME xs (n + 1) p r c k [] .un .un .un) ⟨n + 1, [], .un, .un, .un, rfl, rfl, rfl, rfl, rfl, fun m h => nomatch h⟩ fun i d ρ hd hI => by
      obtain ⟨n1, fo1, i1, row1, j1, rfl, f1, f2, f3, hl1, hn1⟩ := hI
      obtain ⟨hi, rfl⟩ := get_rng hd
      obtain ⟨n2, d2, row2, j2, q1, q2, q3, e2⟩ := mat_row (xs := xs) (n := n1) (p := p) (r := r) (c := c) (k := k) (fo := fo1) (a := (i : Nat)) hp hc (by omega) f2 f3
      refine ⟨_, gN_of (by rw [free_eq]; exact f1), _, e2, n2, _, _, row2, j2, rfl, rfl, q2, q3, by simp [hl1], fun d hd => ?_⟩
      rcases List.mem_append.mp hd with hd | hd
      · exact hn1 d hd
      · rcases List.mem_singleton.mp hd with rfl; exact q1
  rw [seq_nx (by rw [for_of (rng_of r (by omega) rfl)]; exact e)]
  exact ⟨n', fo, _, ret_of (un_of (p := .list fo) rfl rfl rfl), rfl, by simpa using hl, hn⟩
theorem lmatrix_is (xs : List Int) (n : Nat) (p : Int) (r c : Nat) (hp : 2 ≤ p) (hr : r ≤ 1000) (hc : c ≤ 1000) : ∃ (n' : Nat) (fo : List D), f__law_matrix [.own (St xs n) true, .val (.int p), .val (.int (r : Nat)), .val (.int (c : Nat))] = some (.rt (.val (.tuple fo)) [.own (St xs n') true, .val (.int p), .val (.int (r : Nat)), .val (.int (c : Nat))]) ∧ fo.length = r ∧ ∀ d ∈ fo, RowOk p c d := by
  obtain ⟨n', fo, ρ', h, hl, h1, h2⟩ := matrix_run xs n p r c hp hr hc
  have := run_rt (n := 9) (ins := [.own (St xs n) true, .val (.int p), .val (.int (r : Nat)), .val (.int (c : Nat))]) (mb := m__law_matrix) h rfl
  rw [hl] at this
  exact ⟨n', fo, this, h1, h2⟩
end K02
set_option maxRecDepth 100000
set_option maxHeartbeats 2000000
namespace K02
open PySem PySem.Spec PyProof.Rows L2 Pi
/-! ### a module -/
def MapOk (p : Int) (ns : List Int) (m a : D) : Prop := ∃ (s t : Nat) (fo : List D), a = pr s t ∧ s < ns.length ∧ t < ns.length ∧ m = .tuple fo ∧ (fo.length : Int) = at0 ns t ∧ ∀ d ∈ fo, RowOk p (at0 ns s).toNat d
structure ModOk (p : Int) (as : List D) (ns : List Int) (ms : List D) : Prop where
  kind : KindOk p as ns.length
  nn : ∀ m ∈ ns, 0 ≤ m
  sum : ns.sum ≤ 40
  len : ms.length = as.length
  maps : ∀ (j : Nat) (m a : D), ms[j]? = some m → as[j]? = some a → MapOk p ns m a
def modD (p : Int) (as : List D) (ns : List Int) (ms : List D) : D := .tuple [.int p, .tuple as, .tuple (intL ns), .tuple ms]
theorem p2 {p : Int} (h : primeB (.int p) = true) : 2 ≤ p ∧ p ≤ 13 := by
  simp only [primeB, decide_eq_true_eq] at h
  omega
theorem le_sum : ∀ {ns : List Int} {x : Int}, (∀ m ∈ ns, 0 ≤ m) → x ∈ ns → x ≤ ns.sum
  | a :: r, x, h, hx => by
    have ha := h a List.mem_cons_self
    have hr : ∀ m ∈ r, 0 ≤ m := fun m hm => h m (List.mem_cons_of_mem _ hm)
    have h0 : 0 ≤ r.sum := by
      clear hx
      induction r with
      | nil => simp
      | cons b t ih =>
        have := ih (fun m hm => h m (by simp at hm ⊢; rcases hm with rfl | hm <;> simp_all)) (fun m hm => hr m (List.mem_cons_of_mem _ hm))
        have := hr b List.mem_cons_self
        simp only [List.sum_cons]; omega
    simp only [List.sum_cons]
    rcases List.mem_cons.mp hx with rfl | hx
    · omega
    · have := le_sum hr hx; omega
theorem at0_get {ns : List Int} {i : Nat} (h : i < ns.length) : ns[i]? = some (at0 ns (i : Nat)) := by
  unfold at0
  rw [Int.toNat_natCast, List.getElem?_eq_getElem h]
  rfl
theorem at0_nn {ns : List Int} (hn : ∀ m ∈ ns, 0 ≤ m) {i : Nat} (h : i < ns.length) : 0 ≤ at0 ns (i : Nat) ∧ at0 ns (i : Nat) ≤ ns.sum := by
  have := List.mem_of_getElem? (at0_get h)
  exact ⟨hn _ this, le_sum hn this⟩
theorem mod_ok {p : Int} {as : List D} {ns : List Int} {ms : List D} (h : ModOk p as ns ms) : modB (modD p as ns ms) = true := by
  have e1 : dimsB (.tuple (intL ns)) = true := by
    unfold intL
    show (decide (1 ≤ (ns.map PyData.int).length ∧ (ns.map PyData.int).length ≤ 4) && ((ns.map PyData.int).all isNN && decide (sumOf (ns.map PyData.int) ≤ 125))) = true
    have l1 := h.kind.low
    have l2 := h.kind.high
    have l3 := h.sum
    rw [sumOf_ints, List.length_map]
    have : (ns.map PyData.int).all isNN = true := by
      rw [List.all_eq_true]
      intro d hd
      obtain ⟨x, hx, rfl⟩ := List.mem_map.mp hd
      simpa [isNN] using h.nn x hx
    rw [this]
    simp
    omega
  have e2 : arrowsB (.tuple as) ns.length = true := by
    show (decide (as.length ≤ 5) && as.all fun x => arrowB x ns.length) = true
    rw [decide_eq_true h.kind.few, Bool.true_and, List.all_eq_true]
    exact h.kind.arrows
  have e3 : mapsB (.tuple ms) p as ns = true := by
    show (decide (ms.length = as.length) && (zipD ms as).all (mapB p ns)) = true
    rw [decide_eq_true h.len, Bool.true_and, List.all_eq_true]
    intro d hd
    obtain ⟨j, hj⟩ := List.getElem?_of_mem hd
    obtain ⟨x, a, k1, k2, rfl⟩ := zipD_get hj
    obtain ⟨s, t, fo, rfl, hs, ht, rfl, hl, hr⟩ := h.maps j x a k1 k2
    show (decide ((fo.length : Int) = at0 ns (t : Nat)) && fo.all fun x => rowB x (at0 ns (s : Nat)) p) = true
    rw [decide_eq_true hl, Bool.true_and, List.all_eq_true]
    intro d hd
    have q := row_ok (hr d hd)
    have := (at0_nn h.nn hs).1
    rwa [show (((at0 ns (s : Nat)).toNat : Nat) : Int) = at0 ns (s : Nat) by omega] at q
  show (primeB (.int p) && restB (.int p) (.tuple as) (.tuple (intL ns)) (.tuple ms)) = true
  rw [h.kind.prime]
  show (true && (dimsB (.tuple (intL ns)) && (arrowsB (.tuple as) (intL ns).length && mapsB (.tuple ms) p as ((intL ns).map intOf)))) = true
  rw [e1]
  unfold intL
  rw [intOf_map, List.length_map, e2, e3]
  rfl
theorem arrow_nat {a : D} {k : Nat} (h : arrowB a (k : Nat) = true) : ∃ s t : Nat, a = pr s t ∧ s < k ∧ t < k := by
  obtain ⟨s, t, rfl, h1, h2, h3, h4⟩ := arrow_out h
  refine ⟨s.toNat, t.toNat, ?_, by omega, by omega⟩
  unfold pr
  rw [show ((s.toNat : Nat) : Int) = s by omega, show ((t.toNat : Nat) : Int) = t by omega]
/-- slots: draws, kind, dims, p, arrows, spaces, s, t -/
def LE (xs : List Int) (n : Nat) (p : Int) (as : List D) (ns : List Int) (s t : Pi.Slot) : Pi.Env := [.own (St xs n) true, .val (.list [.int p, .tuple as, .int ns.length]), .val (.tuple (intL ns)), .val (.int p), .val (.tuple as), .val (.int ns.length), s, t]
theorem module_run (xs : List Int) (n : Nat) (p : Int) (as : List D) (ns : List Int) (hk : KindOk p as ns.length) (hn : ∀ m ∈ ns, 0 ≤ m) (hs : ns.sum ≤ 40) : ∃ (n' : Nat) (ms : List D) (ρ' : Pi.Env),
    m__law_module [.own (St xs n) true, .val (.list [.int p, .tuple as, .int ns.length]), .val (.tuple (intL ns)), .un, .un, .un, .un, .un] = some (.rt (.val (modD p as ns ms)) ρ') ∧
    left [.own (St xs n) true, .val (.list [.int p, .tuple as, .int ns.length]), .val (.tuple (intL ns))] ρ' = [.own (St xs n') true, .val (.list [.int p, .tuple as, .int ns.length]), .val (.tuple (intL ns))] ∧ ModOk p as ns ms := by
  unfold m__law_module
  rw [seq_nx (ρ1 := LE xs n p as ns .un .un) rfl]
  have hp := (p2 hk.prime).1
  obtain ⟨acc, ρ2, el, m, s', t', rfl, h1, h2, hacc, hall⟩ := lcL_ind (g := gTL (gsCons (gN 6) (gsCons (gN 7) gsNil))) (e := E1__law_module) (vs := [6, 7]) (fun i acc ρ => ∃ (m : Nat) (s t : Pi.Slot), ρ = LE xs m p as ns s t ∧ vf s = true ∧ vf t = true ∧ acc.length = i ∧ ∀ (j : Nat) (x a : D), acc[j]? = some x → as[j]? = some a → MapOk p ns x a)
    as 0 [] (LE xs n p as ns .un .un) ⟨n, .un, .un, rfl, rfl, rfl, rfl, fun j x a h => by simp at h⟩ fun j d acc ρ hd hI => by
      obtain ⟨m, s, t, rfl, hs1, ht1, hl, ha⟩ := hI
      obtain ⟨a, b, rfl, hb1, hb2⟩ := arrow_nat (hk.arrows d (List.mem_of_getElem? hd))
      have q1 := at0_nn hn hb1
      have q2 := at0_nn hn hb2
      obtain ⟨n', fo, e, hfo, hrow⟩ := lmatrix_is xs m p (at0 ns (b : Nat)).toNat (at0 ns (a : Nat)).toNat hp (by omega) (by omega)
      rw [show (((at0 ns (b : Nat)).toNat : Nat) : Int) = at0 ns (b : Nat) by omega, show (((at0 ns (a : Nat)).toNat : Nat) : Int) = at0 ns (a : Nat) by omega] at e
      refine ⟨by simp [frees, vfree_at (i := 6) (ρ := LE xs m p as ns s t) rfl hs1, vfree_at (i := 7) (ρ := LE xs m p as ns s t) rfl ht1], LE xs m p as ns (.val (.int (a : Nat))) (.val (.int (b : Nat))), .val (.tuple fo), LE xs n' p as ns (.val (.int (a : Nat))) (.val (.int (b : Nat))), _, _, rfl, ?_, rfl, n', _, _, rfl, rfl, rfl, by simp [hl], ?_⟩
      · unfold E1__law_module
        have i1 : fIx (.tuple (intL ns)) (.int (b : Nat)) = some (.val (.int (at0 ns (b : Nat)))) := ix_ints (by omega)
        have i2 : fIx (.tuple (intL ns)) (.int (a : Nat)) = some (.val (.int (at0 ns (a : Nat)))) := ix_ints (by omega)
        exact call_lent (i := 0) (ρ1 := LE xs m p as ns (.val (.int (a : Nat))) (.val (.int (b : Nat)))) (ds := [.int p, .int (at0 ns (b : Nat)), .int (at0 ns (a : Nat))]) (b := true) (consR_of rfl (consV_of rfl rfl (consV_of (op_of rfl rfl i1) rfl (consV_of (op_of rfl rfl i2) rfl rfl)))) rfl e rfl (fun _ z => nomatch z)
      · intro j' x a' hx ha'
        by_cases hj : j' < acc.length
        · rw [List.getElem?_append_left hj] at hx
          exact ha j' x a' hx ha'
        · rw [List.getElem?_append_right (by omega)] at hx
          have : j' = acc.length := by
            by_cases h : j' - acc.length = 0
            · omega
            · rw [List.getElem?_eq_none (by simp; omega)] at hx; cases hx
          subst this
          simp at hx
          subst hx
          rw [hl, show 0 + j = j by omega, hd] at ha'
          cases ha'
          exact ⟨a, b, fo, rfl, hb1, hb2, rfl, by omega, hrow⟩
  have elc := mLc_end (it := Pi.iSeq (mVar 4)) (ρ := LE xs n p as ns .un .un) (ρ1 := LE xs n p as ns .un .un) (ds := as) (by
    have hl : as.length ≤ big := by have := hk.few; show as.length ≤ 1000000; omega
    simp [Pi.iSeq, mVar, LE, Res.bind, esc, hl]) (by have := hk.few; omega) rfl el (by simp [frees, vfree_at (i := 6) (ρ := LE xs m p as ns s' t') rfl h1, vfree_at (i := 7) (ρ := LE xs m p as ns s' t') rfl h2])
  exact ⟨m, acc, _, ret_of (tup_of (consV_of rfl rfl (consV_of rfl rfl (consV_of rfl rfl (consV_of (un_of (p := .list acc) elc rfl rfl) rfl rfl)))) rfl (by simp)), rfl, ⟨hk, hn, hs, by simpa using hacc, hall⟩⟩
theorem lmodule_is (xs : List Int) (n : Nat) (p : Int) (as : List D) (ns : List Int) (hk : KindOk p as ns.length) (hn : ∀ m ∈ ns, 0 ≤ m) (hs : ns.sum ≤ 40) : ∃ (n' : Nat) (ms : List D),
    f__law_module [.own (St xs n) true, .val (.list [.int p, .tuple as, .int ns.length]), .val (.tuple (intL ns))] = some (.rt (.val (modD p as ns ms)) [.own (St xs n') true, .val (.list [.int p, .tuple as, .int ns.length]), .val (.tuple (intL ns))]) ∧ ModOk p as ns ms := by
  obtain ⟨n', ms, ρ', h, hl, h1⟩ := module_run xs n p as ns hk hn hs
  have := run_rt (n := 8) (ins := [.own (St xs n) true, .val (.list [.int p, .tuple as, .int ns.length]), .val (.tuple (intL ns))]) (mb := m__law_module) h rfl
  rw [hl] at this
  exact ⟨n', ms, this, h1⟩
end K02
set_option maxRecDepth 100000
set_option maxHeartbeats 2000000
namespace K02
open PySem PySem.Spec PyProof.Rows L2 Pi
/-! ### modules told by functions -/
structure Md where
  p : Int
  m : Nat
  S : Nat → Nat
  T : Nat → Nat
  q : Nat
  N : Nat → Nat
  F : Nat → Nat → Nat → Int
def Md.as (M : Md) : List D := tab M.m fun k => .tuple [.int (M.S k : Nat), .int (M.T k : Nat)]
def Md.ds (M : Md) : List D := tab M.q fun v => .int (M.N v : Nat)
def Md.ms (M : Md) : List D := tab M.m fun k => matD (M.N (M.T k)) (M.N (M.S k)) (M.F k)
def Md.d (M : Md) : D := .tuple [.int M.p, .tuple M.as, .tuple M.ds, .tuple M.ms]
structure Md.Ok (M : Md) (b : Nat) : Prop where
  prime : primeB (.int M.p) = true
  few : M.m ≤ 5
  low : 1 ≤ M.q
  high : M.q ≤ 4
  src : ∀ k, k < M.m → M.S k < M.q
  tgt : ∀ k, k < M.m → M.T k < M.q
  sum : sumN M.q M.N ≤ b
  num : ∀ k i j, k < M.m → i < M.N (M.T k) → j < M.N (M.S k) → 0 ≤ M.F k i j ∧ M.F k i j < M.p
section
variable {M : Md} {b : Nat}
theorem Md.Ok.le (h : M.Ok b) {v : Nat} (hv : v < M.q) : M.N v ≤ b := Nat.le_trans (sumN_le hv) h.sum
theorem Md.Ok.up (h : M.Ok b) {c : Nat} (hb : b ≤ c) : M.Ok c := ⟨h.prime, h.few, h.low, h.high, h.src, h.tgt, Nat.le_trans h.sum hb, h.num⟩
theorem dsB_ok {q : Nat} {N : Nat → Nat} (h1 : 1 ≤ q) (h2 : q ≤ 4) (h3 : sumN q N ≤ 125) : dimsB (.tuple (tab q fun v => .int (N v : Nat))) = true := by
  have e : (tab q fun v => PyData.int (N v : Nat)) = ((List.range q).map fun v => ((N v : Nat) : Int)).map PyData.int := by simp [tab, Function.comp_def]
  show (decide (1 ≤ (tab q fun v => PyData.int (N v : Nat)).length ∧ (tab q fun v => PyData.int (N v : Nat)).length ≤ 4) && ((tab q fun v => PyData.int (N v : Nat)).all isNN && decide (sumOf (tab q fun v => PyData.int (N v : Nat)) ≤ 125))) = true
  rw [tab_len, decide_eq_true ⟨h1, h2⟩, Bool.true_and, e, sumOf_ints, sumN_int, decide_eq_true (by omega), Bool.and_true, List.all_eq_true]
  intro d hd
  obtain ⟨x, hx, rfl⟩ := List.mem_map.mp hd
  obtain ⟨v, _, rfl⟩ := List.mem_map.mp hx
  simp [isNN]
theorem row_B {c : Nat} {f : Nat → Int} {p : Int} (h : ∀ j, j < c → 0 ≤ f j ∧ f j < p) : rowB (rowD c f) (c : Nat) p = true := by
  show (decide (((tab c fun j => PyData.int (f j)).length : Int) = (c : Nat)) && (tab c fun j => PyData.int (f j)).all (inR p)) = true
  rw [tab_len, decide_eq_true rfl, Bool.true_and, List.all_eq_true]
  intro d hd
  obtain ⟨j, hj, rfl⟩ := mem_tab hd
  simpa [inR] using h j hj
theorem mat_B {r c : Nat} {f : Nat → Nat → Int} {p : Int} (h : ∀ i j, i < r → j < c → 0 ≤ f i j ∧ f i j < p) : matB (matD r c f) (r : Nat) (c : Nat) p = true := by
  show (decide (((tab r fun i => rowD c (f i)).length : Int) = (r : Nat)) && (tab r fun i => rowD c (f i)).all fun x => rowB x (c : Nat) p) = true
  rw [tab_len, decide_eq_true rfl, Bool.true_and, List.all_eq_true]
  intro d hd
  obtain ⟨i, hi, rfl⟩ := mem_tab hd
  exact row_B fun j hj => h i j hi hj
theorem at0_tab {q v : Nat} {N : Nat → Nat} (h : v < q) : at0 ((tab q fun v => PyData.int (N v : Nat)).map intOf) (v : Nat) = (N v : Nat) := by
  unfold at0
  rw [Int.toNat_natCast, List.getElem?_map, tab_get h]
  rfl
theorem mod_B (h : M.Ok 125) : modB M.d = true := by
  have e2 : arrowsB (.tuple M.as) (M.q : Nat) = true := by
    show (decide ((tab M.m _).length ≤ 5) && (tab M.m _).all fun x => arrowB x (M.q : Nat)) = true
    rw [tab_len, decide_eq_true h.few, Bool.true_and, List.all_eq_true]
    intro d hd
    obtain ⟨k, hk, rfl⟩ := mem_tab hd
    have h1 := h.src k hk
    have h2 := h.tgt k hk
    simp [arrowB, inR]
    omega
  have e3 : mapsB (.tuple M.ms) M.p M.as (M.ds.map intOf) = true := by
    show (decide ((tab M.m _).length = (tab M.m _).length) && (zipD (tab M.m _) (tab M.m _)).all (mapB M.p (M.ds.map intOf))) = true
    rw [tab_len, tab_len, decide_eq_true rfl, Bool.true_and, zip_tab, List.all_eq_true]
    intro d hd
    obtain ⟨k, hk, rfl⟩ := mem_tab hd
    show matB (matD (M.N (M.T k)) (M.N (M.S k)) (M.F k)) (at0 (M.ds.map intOf) (M.T k : Nat)) (at0 (M.ds.map intOf) (M.S k : Nat)) M.p = true
    unfold Md.ds
    rw [at0_tab (h.tgt k hk), at0_tab (h.src k hk)]
    exact mat_B fun i j hi hj => h.num k i j hk hi hj
  have hl : lenD (.tuple M.ds) = (M.q : Nat) := by show ((tab M.q _).length : Nat) = _; rw [tab_len]
  show (primeB (.int M.p) && (dimsB (.tuple M.ds) && (arrowsB (.tuple M.as) (lenD (.tuple M.ds)) && mapsB (.tuple M.ms) M.p M.as (M.ds.map intOf)))) = true
  rw [h.prime, show dimsB (.tuple M.ds) = true from dsB_ok h.low h.high h.sum, hl, e2, e3]
  rfl
theorem sz_mat {r c n : Nat} {f : Nat → Nat → Int} (hr : r ≤ 1000) (hc : c ≤ 1000) : Sz 1 (matD r c f) := by
  refine ⟨by show (tab r _).length ≤ 1000000; rw [tab_len]; omega, fun x hx => ?_⟩
  obtain ⟨i, hi, rfl⟩ := mem_tab (show x ∈ tab r _ from hx)
  show (tab c _).length ≤ 1000000
  rw [tab_len]; omega
theorem mod_Sz (h : M.Ok 125) : Sz 3 M.d := by
  refine ⟨by show 4 ≤ 1000000; decide, fun x hx => ?_⟩
  have hx : x ∈ [PyData.int M.p, .tuple M.as, .tuple M.ds, .tuple M.ms] := hx
  simp only [List.mem_cons, List.not_mem_nil, or_false] at hx
  have f := h.few
  have q := h.high
  rcases hx with rfl | rfl | rfl | rfl
  · exact ⟨Nat.zero_le _, fun y hy => nomatch hy⟩
  · refine ⟨by show (tab M.m _).length ≤ 1000000; rw [tab_len]; omega, fun y hy => ?_⟩
    obtain ⟨k, hk, rfl⟩ := mem_tab (show y ∈ tab M.m _ from hy)
    refine ⟨by show 2 ≤ 1000000; decide, fun z hz => ?_⟩
    have hz : z ∈ [PyData.int (M.S k : Nat), .int (M.T k : Nat)] := hz
    simp only [List.mem_cons, List.not_mem_nil, or_false] at hz
    rcases hz with rfl | rfl <;> exact Nat.zero_le _
  · refine ⟨by show (tab M.q _).length ≤ 1000000; rw [tab_len]; omega, fun y hy => ?_⟩
    obtain ⟨k, hk, rfl⟩ := mem_tab (show y ∈ tab M.q _ from hy)
    exact ⟨Nat.zero_le _, fun y hy => nomatch hy⟩
  · refine ⟨by show (tab M.m _).length ≤ 1000000; rw [tab_len]; omega, fun y hy => ?_⟩
    obtain ⟨k, hk, rfl⟩ := mem_tab (show y ∈ tab M.m _ from hy)
    have := h.le (h.src k hk)
    have := h.le (h.tgt k hk)
    exact sz_mat (n := 0) (by omega) (by omega)
theorem nice_md {c : Nat} (h : M.Ok c) (hc : c ≤ 1000) : Nice (4 * (max 15 (5 * (c * (c + 1) + 1)) + 1)) 4 M.d := by
  have f := h.few
  have q := h.high
  have hp := p2 h.prime
  refine nice_tup (c := 4) (by simp) fun x hx => ?_
  simp only [List.mem_cons, List.not_mem_nil, or_false] at hx
  rcases hx with rfl | rfl | rfl | rfl
  · exact (nice_int (by omega)).mono (Nat.zero_le _) (Nat.zero_le _)
  · refine (nice_tup (w := 2) (n := 1) (c := 5) (by unfold Md.as; rw [tab_len]; exact f) fun y hy => ?_).mono (Nat.le_max_left _ _) (by omega)
    obtain ⟨k, hk, rfl⟩ := mem_tab (show y ∈ tab M.m _ from hy)
    have h1 := h.src k hk
    have h2 := h.tgt k hk
    refine nice_tup (w := 0) (n := 0) (c := 2) (by simp) fun z hz => ?_
    simp only [List.mem_cons, List.not_mem_nil, or_false] at hz
    rcases hz with rfl | rfl <;> exact nice_int (by omega)
  · refine (nice_tup (w := 0) (n := 0) (c := 4) (by unfold Md.ds; rw [tab_len]; exact q) fun y hy => ?_).mono (by omega) (by omega)
    obtain ⟨k, hk, rfl⟩ := mem_tab (show y ∈ tab M.q _ from hy)
    have := h.le hk
    exact nice_int (by omega)
  · refine (nice_tup (w := c * (c + 1)) (n := 2) (c := 5) (by unfold Md.ms; rw [tab_len]; exact f) fun y hy => ?_).mono (Nat.le_max_right _ _) (by omega)
    obtain ⟨k, hk, rfl⟩ := mem_tab (show y ∈ tab M.m _ from hy)
    exact nice_mat (h.le (h.tgt k hk)) (h.le (h.src k hk)) fun i j hi hj => by have := h.num k i j hk hi hj; omega
end
/-! ### transposes, turned modules -/
theorem transposed_is (r c : Nat) (f : Nat → Nat → Int) (hr : r ≤ 1000) (hc : c ≤ 1000) : f_transposed [.val (matD r c f), .val (.int (c : Nat))] = some (.rt (.val (matD c r fun i j => f j i)) [.val (matD r c f), .val (.int (c : Nat))]) := by
  let E := fun a b : Pi.Slot => [Pi.Slot.val (matD r c f), .val (.int (c : Nat)), a, b]
  have inner : ∀ a, a < c → mLc (iSeq (mVar 0)) (gN 3) mYes E1_transposed [3] (E (.val (.int (a : Nat))) .un) = some (.ok (.own (.list (tab r fun i => .int (f i a)))) (E (.val (.int (a : Nat))) .un)) := fun a ha =>
    mLc_tab (n := r) (h := fun i => rowD c (f i)) (f := fun i => .int (f i a)) (seq_tab (n := r) (f := fun i => rowD c (f i)) rfl rfl (by omega)) (by omega) rfl fun i hi =>
      ⟨E (.val (.int (a : Nat))) (.val (rowD c (f i))), .val (.int (f i a)), rfl, op_of (p := rowD c (f i)) (q := .int (a : Nat)) rfl rfl (ix_tab (f := fun j => .int (f i j)) ha), rfl, rfl, rfl⟩
  have outer := mLc_tab (g := gN 2) (e := E2_transposed) (vs := [2]) (h := fun a => .int (a : Nat)) (f := fun a => rowD r fun j => f j a) (ρ := E .un .un) (ρ1 := E .un .un) (it := iRng1 (mVar 1)) (rng_tabs c (by omega) rfl) (by omega) rfl fun a ha =>
    ⟨E (.val (.int (a : Nat))) .un, .val (rowD r fun j => f j a), rfl, un_of (p := .list (tab r fun i => .int (f i a))) (inner a ha) rfl rfl, rfl, rfl, rfl⟩
  exact run_rt (n := 4) (ins := [.val (matD r c f), .val (.int (c : Nat))]) (mb := m_transposed) (ρ1 := E .un .un) (show m_transposed (E .un .un) = _ from ret_of (un_of (p := .list _) outer rfl rfl)) rfl
def Md.turn (M : Md) : Md := { M with S := M.T, T := M.S, F := fun k i j => M.F k j i }
theorem turn_ok {M : Md} {b : Nat} (h : M.Ok b) : M.turn.Ok b := ⟨h.prime, h.few, h.low, h.high, h.tgt, h.src, h.sum, fun k i j hk hi hj => h.num k j i hk hj hi⟩
theorem turn_run (M : Md) (h : M.Ok 125) : ∃ ρ', m_turn [.val M.d, .un, .un, .un, .un, .un, .un, .un, .un, .un] = some (.rt (.val M.turn.d) ρ') ∧ left [.val M.d] ρ' = [.val M.d] := by
  have f5 := h.few
  unfold m_turn
  let E := fun a b c d e : Pi.Slot => [Pi.Slot.val M.d, .val (.int M.p), .val (.tuple M.as), .val (.tuple M.ds), .val (.tuple M.ms), a, b, c, d, e]
  rw [seq_nx (ρ1 := E .un .un .un .un .un) rfl]
  have e1 := mLc_tab (g := gTL (gsCons (gN 6) (gsCons (gTL (gsCons (gN 7) (gsCons (gN 8) gsNil))) gsNil))) (e := E1_turn) (vs := [6, 7, 8]) (it := iZip (mConsV (mVar 4) (mConsV (mVar 2) mNilA)))
    (f := fun k => matD (M.N (M.S k)) (M.N (M.T k)) fun i j => M.F k j i) (ρ := E .un .un .un .un .un) (ρ1 := E .un .un .un .un .un)
    (zip_of (f := fun k => matD (M.N (M.T k)) (M.N (M.S k)) (M.F k)) (g := fun k => .tuple [.int (M.S k : Nat), .int (M.T k : Nat)]) (n := M.m) (consV_of rfl rfl (consV_of rfl rfl rfl)) (by omega)) (by omega) rfl fun k hk => by
      have h1 := h.le (h.src k hk)
      have h2 := h.le (h.tgt k hk)
      refine ⟨E .un (.val (matD (M.N (M.T k)) (M.N (M.S k)) (M.F k))) (.val (.int (M.S k : Nat))) (.val (.int (M.T k : Nat))) .un, .val (matD (M.N (M.S k)) (M.N (M.T k)) fun i j => M.F k j i), rfl, ?_, rfl, rfl, rfl⟩
      exact call_of (ds := [matD (M.N (M.T k)) (M.N (M.S k)) (M.F k), .int (M.N (M.S k) : Nat)]) (consV_of rfl rfl (consV_of (op_of (p := .tuple M.ds) (q := .int (M.S k : Nat)) rfl rfl (ix_tab (f := fun v => .int (M.N v : Nat)) (h.src k hk))) rfl rfl)) (transposed_is _ _ _ (by omega) (by omega)) rfl (fun _ z => nomatch z)
  rw [seq_nx (ρ1 := E (.own (.list M.turn.ms) false) .un .un .un .un) (setO_of (i := 5) (ρ1 := E .un .un .un .un .un) e1 rfl)]
  have e2 := mLc_tab (g := gTL (gsCons (gN 7) (gsCons (gN 9) gsNil))) (e := E2_turn) (vs := [7, 9]) (it := iSeq (mVar 2)) (h := fun k => .tuple [.int (M.S k : Nat), .int (M.T k : Nat)])
    (f := fun k => .tuple [.int (M.T k : Nat), .int (M.S k : Nat)]) (ρ := E (.own (.list M.turn.ms) false) .un .un .un .un) (ρ1 := E (.own (.list M.turn.ms) false) .un .un .un .un)
    (seq_tab (n := M.m) rfl rfl (by omega)) (by omega) rfl fun k hk =>
      ⟨E (.own (.list M.turn.ms) false) .un (.val (.int (M.S k : Nat))) .un (.val (.int (M.T k : Nat))), _, rfl, tup_of (consV_of rfl rfl (consV_of rfl rfl rfl)) rfl (by simp), rfl, rfl, rfl⟩
  exact ⟨_, ret_of (tup_of (ds := [.int M.p, .tuple M.turn.as, .tuple M.ds, .tuple M.turn.ms]) (consV_of rfl rfl (consV_of (un_of (p := .list M.turn.as) e2 rfl rfl) rfl (consV_of rfl rfl (consV_of (un_of (p := .list M.turn.ms) rfl rfl rfl) rfl rfl)))) rfl (by simp)), rfl⟩
theorem check_is {M : Md} (h : M.Ok 125) : f_check_module [.val M.d] = some (.rt (.val .none) [.val M.d]) := check_ok M.d (mod_Sz h) (mod_B h)
theorem turned_is (M : Md) (h : M.Ok 125) : f_turned [.val M.d] = some (.rt (.val M.turn.d) [.val M.d]) := by
  obtain ⟨ρ', e, hl⟩ := turn_run M h
  have et : f_turn [.val M.d] = some (.rt (.val M.turn.d) [.val M.d]) := by
    have := run_rt (n := 10) (ins := [.val M.d]) (mb := m_turn) e rfl
    rw [hl] at this
    exact this
  refine run_rt (n := 1) (ins := [.val M.d]) (mb := m_turned) (r := .val M.turn.d) (ρ1 := [.val M.d]) (show m_turned [.val M.d] = _ from ?_) rfl
  unfold m_turned
  have c := call_of (a := mConsV (mVar 0) mNilA) (ρ := [.val M.d]) (ρ1 := [.val M.d]) (ds := [M.d]) (consV_of rfl rfl rfl) (check_is h) rfl (fun _ z => nomatch z)
  rw [seq_nx (ρ1 := [.val M.d]) (by simp only [mExpr, c])]
  exact ret_of (call_of (ds := [M.d]) (consV_of rfl rfl rfl) et rfl (fun _ z => nomatch z))
end K02
set_option maxRecDepth 100000
set_option maxHeartbeats 2000000
namespace K02
open PySem PySem.Spec PyProof.Rows L2 Pi
/-! ### sums -/
def blk (r c : Nat) (f g : Nat → Nat → Int) (i j : Nat) : Int := if i < r then (if j < c then f i j else 0) else (if j < c then 0 else g (i - r) (j - c))
theorem row_zeros {c k : Nat} {f : Nat → Int} (hc : c ≤ 1000) (hk : k ≤ 1000) : fAdd (rowD c f) (.tuple (tab k fun _ => .int 0)) = some (.val (rowD (c + k) fun j => if j < c then f j else 0)) := by
  refine (cat_T (by rw [tab_len, tab_len]; omega)).trans ?_
  rw [tab_app]
  exact congrArg (fun z => some (RV.val (.tuple z))) (tab_congr fun j hj => by by_cases h : j < c <;> simp [h])
theorem zeros_row {c k : Nat} {f : Nat → Int} (hc : c ≤ 1000) (hk : k ≤ 1000) : fAdd (.tuple (tab k fun _ => .int 0)) (rowD c f) = some (.val (rowD (k + c) fun j => if j < k then 0 else f (j - k))) := by
  refine (cat_T (by rw [tab_len, tab_len]; omega)).trans ?_
  rw [tab_app]
  exact congrArg (fun z => some (RV.val (.tuple z))) (tab_congr fun j hj => by by_cases h : j < k <;> simp [h])
/-- the rows of both, in one -/
theorem rows_blk (r1 c1 r2 c2 : Nat) (f g : Nat → Nat → Int) : (tab r1 fun i => rowD (c1 + c2) fun j => if j < c1 then f i j else 0) ++ (tab r2 fun i => rowD (c1 + c2) fun j => if j < c1 then 0 else g i (j - c1)) = tab (r1 + r2) fun i => rowD (c1 + c2) (blk r1 c1 f g i) := by
  rw [tab_app]
  refine tab_congr fun i hi => ?_
  by_cases h : i < r1
  · rw [if_pos h]; exact row_congr fun j hj => by simp only [blk, h, if_true]
  · rw [if_neg h]; exact row_congr fun j hj => by simp only [blk, h, if_false]
theorem blocks_is (r1 c1 r2 c2 : Nat) (f g : Nat → Nat → Int) (h1 : r1 ≤ 1000) (h2 : c1 ≤ 1000) (h3 : r2 ≤ 1000) (h4 : c2 ≤ 1000) :
    f_blocks [.val (matD r1 c1 f), .val (matD r2 c2 g), .val (.int (c1 : Nat)), .val (.int (c2 : Nat))] = some (.rt (.val (matD (r1 + r2) (c1 + c2) (blk r1 c1 f g))) [.val (matD r1 c1 f), .val (matD r2 c2 g), .val (.int (c1 : Nat)), .val (.int (c2 : Nat))]) := by
  let E := fun a b c : Pi.Slot => [Pi.Slot.val (matD r1 c1 f), .val (matD r2 c2 g), .val (.int (c1 : Nat)), .val (.int (c2 : Nat)), a, b, c]
  let up := tab r1 fun i => rowD (c1 + c2) fun j => if j < c1 then f i j else 0
  let lo := tab r2 fun i => rowD (c1 + c2) fun j => if j < c1 then 0 else g i (j - c1)
  have e1 := mLc_tab (g := gN 6) (e := E1_blocks) (vs := [6]) (it := iSeq (mVar 0)) (n := r1) (h := fun i => rowD c1 (f i)) (f := fun i => rowD (c1 + c2) fun j => if j < c1 then f i j else 0) (ρ := E .un .un .un) (ρ1 := E .un .un .un)
    (seq_tab (n := r1) rfl rfl (by omega)) (by omega) rfl fun i hi =>
      ⟨E .un .un (.val (rowD c1 (f i))), .val _, rfl, op_of (p := rowD c1 (f i)) rfl (op_of (p := .tuple [.int 0]) (q := .int (c2 : Nat)) rfl rfl (rep_T h4)) (row_zeros h2 h4), rfl, rfl, rfl⟩
  have e2 := mLc_tab (g := gN 6) (e := E2_blocks) (vs := [6]) (it := iSeq (mVar 1)) (n := r2) (h := fun i => rowD c2 (g i)) (f := fun i => rowD (c1 + c2) fun j => if j < c1 then 0 else g i (j - c1)) (ρ := E (.own (.list up) false) .un .un) (ρ1 := E (.own (.list up) false) .un .un)
    (seq_tab (n := r2) rfl rfl (by omega)) (by omega) rfl fun i hi =>
      ⟨E (.own (.list up) false) .un (.val (rowD c2 (g i))), .val _, rfl, op_of (q := rowD c2 (g i)) (op_of (p := .tuple [.int 0]) (q := .int (c1 : Nat)) rfl rfl (rep_T h2)) rfl (zeros_row h4 h2), rfl, rfl, rfl⟩
  refine run_rt (n := 7) (ins := [.val (matD r1 c1 f), .val (matD r2 c2 g), .val (.int (c1 : Nat)), .val (.int (c2 : Nat))]) (mb := m_blocks) (r := .val (matD (r1 + r2) (c1 + c2) (blk r1 c1 f g))) (ρ1 := E (.own (.list up) false) (.own (.list lo) false) .un) (show m_blocks (E .un .un .un) = _ from ?_) rfl
  unfold m_blocks
  rw [seq_nx (ρ1 := E (.own (.list up) false) .un .un) (setO_of (i := 4) (ρ1 := E .un .un .un) e1 rfl)]
  rw [seq_nx (ρ1 := E (.own (.list up) false) (.own (.list lo) false) .un) (setO_of (i := 5) (ρ1 := E (.own (.list up) false) .un .un) e2 rfl)]
  have e3 : mOp fAdd (mVar 4) (mVar 5) (E (.own (.list up) false) (.own (.list lo) false) .un) = some (.ok (.own (.list (tab (r1 + r2) fun i => rowD (c1 + c2) (blk r1 c1 f g i)))) (E (.own (.list up) false) (.own (.list lo) false) .un)) :=
    op_rd (p := .list up) (q := .list lo) rfl rfl rfl rfl (by rw [cat_L (by simp only [up, lo, tab_len]; omega), rows_blk])
  exact ret_of (un_of (p := .list _) e3 rfl rfl)
/-- another one of the kind, by its dims and maps -/
def Md.like (M : Md) (N : Nat → Nat) (F : Nat → Nat → Nat → Int) : Md := { M with N := N, F := F }
def Md.plus (M : Md) (N : Nat → Nat) (F : Nat → Nat → Nat → Int) : Md := { M with N := fun v => M.N v + N v, F := fun k => blk (M.N (M.T k)) (M.N (M.S k)) (M.F k) (F k) }
theorem plus_ok {M : Md} {N : Nat → Nat} {F : Nat → Nat → Nat → Int} {a b : Nat} (h : M.Ok a) (h' : (M.like N F).Ok b) : (M.plus N F).Ok (a + b) := by
  refine ⟨h.prime, h.few, h.low, h.high, h.src, h.tgt, ?_, fun k i j hk hi hj => ?_⟩
  · have e := sumN_add M.q M.N N
    have s1 := h.sum
    have s2 : sumN M.q N ≤ b := h'.sum
    show sumN M.q (fun v => M.N v + N v) ≤ a + b
    omega
  · have hp := p2 h.prime
    have q1 : i < M.N (M.T k) + N (M.T k) := hi
    have q2 : j < M.N (M.S k) + N (M.S k) := hj
    show 0 ≤ blk (M.N (M.T k)) (M.N (M.S k)) (M.F k) (F k) i j ∧ blk (M.N (M.T k)) (M.N (M.S k)) (M.F k) (F k) i j < M.p
    unfold blk
    split
    · split
      · exact h.num k i j hk (by assumption) (by assumption)
      · omega
    · split
      · omega
      · exact h'.num k _ _ hk (by show _ < N (M.T k); omega) (by show _ < N (M.S k); omega)
theorem shaped_md {M : Md} {b : Nat} (h : M.Ok b) (hb : b ≤ 1000) : SeqAt.shaped M.d = true := (nice_md h hb).shaped (by decide)
theorem cut2 (a b c d : D) : fSl (.tuple [a, b, c, d]) none (some 2) = some (.val (.tuple [a, b])) := rfl
theorem as_lay {M : Md} : PyData.canLay0 (.tuple M.as) = true ∧ PyData.depth (.tuple M.as) ≤ 2 := by
  have : Nice (M.m * 3) 2 (.tuple M.as) ∨ True := .inr trivial
  have all : ∀ x ∈ M.as, x.canLay0 = true ∧ x.depth ≤ 1 := fun x hx => by
    obtain ⟨k, hk, rfl⟩ := mem_tab (show x ∈ tab M.m _ from hx)
    exact ⟨rfl, Nat.le_refl _⟩
  generalize M.as = l at all ⊢
  have : PyData.canLayAll0 l = true ∧ PyData.depthAll l ≤ 1 := by
    induction l with
    | nil => exact ⟨rfl, Nat.zero_le _⟩
    | cons x r ih =>
      have h1 := all x List.mem_cons_self
      have h2 := ih fun y hy => all y (List.mem_cons_of_mem _ hy)
      exact ⟨by simp [PyData.canLayAll0, h1.1, h2.1], by simp only [PyData.depthAll]; omega⟩
  exact ⟨by simpa only [PyData.canLay0] using this.1, by simp only [PyData.depth]; omega⟩
theorem kind_sh (M : Md) : SeqAt.shaped (.tuple [.int M.p, .tuple M.as]) = true := by
  obtain ⟨h1, h2⟩ := as_lay (M := M)
  have d0 : PyData.depth (.int M.p) = 0 := rfl
  have c0 : PyData.canLay0 (.int M.p) = true := rfl
  show (PyData.canLay0 (.tuple [.int M.p, .tuple M.as]) && decide (PyData.depth (.tuple [.int M.p, .tuple M.as]) ≤ 64)) = true
  have e1 : PyData.canLay0 (.tuple [.int M.p, .tuple M.as]) = true := by
    have : PyData.canLay0 (.tuple [.int M.p, .tuple M.as]) = (PyData.canLay0 (.int M.p) && (PyData.canLay0 (.tuple M.as) && true)) := rfl
    rw [this, c0, h1]; rfl
  have e2 : PyData.depth (.tuple [.int M.p, .tuple M.as]) = max (PyData.depth (.int M.p)) (max (PyData.depth (.tuple M.as)) 0) + 1 := rfl
  rw [e1, e2, d0, decide_eq_true (by omega)]; rfl
/-- the kinds of two modules, compared -/
theorem kinds_eqv (A B : Md) : PyData.eqv (.tuple [.int A.p, .tuple A.as]) (.tuple [.int B.p, .tuple B.as]) = (decide (A.p = B.p) && PyData.eqvAll A.as B.as) := by
  have : PyData.eqv (.tuple [.int A.p, .tuple A.as]) (.tuple [.int B.p, .tuple B.as]) = ((A.p == B.p) && (PyData.eqvAll A.as B.as && true)) := by
    simp only [PyData.eqv, PyData.eqvAll]
  rw [this, Bool.and_true]; rfl
def kindB (A B : Md) : Bool := (decide (A.p = B.p) && PyData.eqvAll A.as B.as) && decide (A.q = B.q)
theorem one_kind_is (A B : Md) : f_are_of_one_kind [.val A.d, .val B.d] = some (.rt (.val (.bool (kindB A B))) [.val A.d, .val B.d]) := by
  refine run_rt (n := 2) (ins := [.val A.d, .val B.d]) (mb := m_are_of_one_kind) (r := .val (.bool (kindB A B))) (ρ1 := [.val A.d, .val B.d]) (show m_are_of_one_kind [.val A.d, .val B.d] = _ from ?_) rfl
  unfold m_are_of_one_kind
  have s1 : ∀ (i : Nat) (X : Md), mVar i [.val A.d, .val B.d] = some (.ok (.val X.d) [.val A.d, .val B.d]) → mSl (mVar i) mON (mOS (mC (.int 2))) [.val A.d, .val B.d] = some (.ok (.val (.tuple [.int X.p, .tuple X.as])) [.val A.d, .val B.d]) := fun i X hx =>
    sl_of' (d := X.d) hx rfl (show mOS (mC (.int 2)) [.val A.d, .val B.d] = some (.ok (some 2) [.val A.d, .val B.d]) from rfl) rfl rfl
  have e1 : mOp fEq (mSl (mVar 0) mON (mOS (mC (.int 2)))) (mSl (mVar 1) mON (mOS (mC (.int 2)))) [.val A.d, .val B.d] = some (.ok (.val (.bool (decide (A.p = B.p) && PyData.eqvAll A.as B.as))) [.val A.d, .val B.d]) :=
    op_of (s1 0 A rfl) (s1 1 B rfl) (by rw [eq_sh (kind_sh A) (kind_sh B) rfl, kinds_eqv])
  have e2 : mOp fEq (mUn fLen (mOp fIx (mVar 0) (mC (.int 2)))) (mUn fLen (mOp fIx (mVar 1) (mC (.int 2)))) [.val A.d, .val B.d] = some (.ok (.val (.bool (decide (A.q = B.q)))) [.val A.d, .val B.d]) := by
    have l1 : mUn fLen (mOp fIx (mVar 0) (mC (.int 2))) [.val A.d, .val B.d] = some (.ok (.val (.int (A.q : Nat))) [.val A.d, .val B.d]) := un_of (p := .tuple A.ds) (op_of (p := A.d) (q := .int 2) rfl rfl rfl) rfl len_tab
    have l2 : mUn fLen (mOp fIx (mVar 1) (mC (.int 2))) [.val A.d, .val B.d] = some (.ok (.val (.int (B.q : Nat))) [.val A.d, .val B.d]) := un_of (p := .tuple B.ds) (op_of (p := B.d) (q := .int 2) rfl rfl rfl) rfl len_tab
    have e : decide ((A.q : Int) = (B.q : Int)) = decide (A.q = B.q) := by
      by_cases h : A.q = B.q
      · simp [h]
      · have : ¬ (A.q : Int) = (B.q : Int) := by omega
        simp [h, this]
    rw [← e]
    exact op_of l1 l2 (eq_ints _ _)
  unfold kindB
  cases h : (decide (A.p = B.p) && PyData.eqvAll A.as B.as) with
  | true =>
    rw [h] at e1
    exact ret_of (by rw [and_t e1, e2, Bool.true_and])
  | false =>
    rw [h] at e1
    exact ret_of (by rw [and_f e1, Bool.false_and])
theorem kind_ok {A B : Md} (h : kindB A B = true) : f_check_kind [.val A.d, .val B.d] = some (.rt (.val .none) [.val A.d, .val B.d]) := by
  have c := call_of (a := mConsV (mVar 0) (mConsV (mVar 1) mNilA)) (ρ := [.val A.d, .val B.d]) (ρ1 := [.val A.d, .val B.d]) (ds := [A.d, B.d]) (consV_of rfl rfl (consV_of rfl rfl rfl)) (one_kind_is A B) rfl (fun _ z => nomatch z)
  refine run_nx (n := 2) (ins := [.val A.d, .val B.d]) (mb := m_check_kind) (ρ1 := [.val A.d, .val B.d]) (show m_check_kind [.val A.d, .val B.d] = _ from ?_)
  unfold m_check_kind
  rw [if_f (tnot_of (v := true) (tru_of_ok c rfl (by rw [h]; rfl)))]
  rfl
theorem kind_no {A B : Md} (h : kindB A B = false) : f_check_kind [.val A.d, .val B.d] = some (.ex 2 [.val A.d, .val B.d]) := by
  have c := call_of (a := mConsV (mVar 0) (mConsV (mVar 1) mNilA)) (ρ := [.val A.d, .val B.d]) (ρ1 := [.val A.d, .val B.d]) (ds := [A.d, B.d]) (consV_of rfl rfl (consV_of rfl rfl rfl)) (one_kind_is A B) rfl (fun _ z => nomatch z)
  refine run_ex (n := 2) (ins := [.val A.d, .val B.d]) (mb := m_check_kind) (ρ1 := [.val A.d, .val B.d]) (show m_check_kind [.val A.d, .val B.d] = _ from ?_)
  unfold m_check_kind
  rw [if_t (tnot_of (v := false) (tru_of_ok c rfl (by rw [h]; rfl)))]
  rfl
/-- what the checks of a pair say -/
theorem pair_ok {A B : Md} (hA : A.Ok 125) (hB : B.Ok 125) (h : kindB A B = true) : f_check_pair [.val A.d, .val B.d] = some (.rt (.val .none) [.val A.d, .val B.d]) := by
  refine run_nx (n := 2) (ins := [.val A.d, .val B.d]) (mb := m_check_pair) (ρ1 := [.val A.d, .val B.d]) (show m_check_pair [.val A.d, .val B.d] = _ from ?_)
  unfold m_check_pair
  have c1 := call_of (a := mConsV (mVar 0) mNilA) (ρ := [.val A.d, .val B.d]) (ρ1 := [.val A.d, .val B.d]) (ds := [A.d]) (consV_of rfl rfl rfl) (check_is hA) rfl (fun _ z => nomatch z)
  have c2 := call_of (a := mConsV (mVar 1) mNilA) (ρ := [.val A.d, .val B.d]) (ρ1 := [.val A.d, .val B.d]) (ds := [B.d]) (consV_of rfl rfl rfl) (check_is hB) rfl (fun _ z => nomatch z)
  have c3 := call_of (a := mConsV (mVar 0) (mConsV (mVar 1) mNilA)) (ρ := [.val A.d, .val B.d]) (ρ1 := [.val A.d, .val B.d]) (ds := [A.d, B.d]) (consV_of rfl rfl (consV_of rfl rfl rfl)) (kind_ok h) rfl (fun _ z => nomatch z)
  rw [seq_nx (ρ1 := [.val A.d, .val B.d]) (by simp only [mExpr, c1]), seq_nx (ρ1 := [.val A.d, .val B.d]) (by simp only [mExpr, c2])]
  simp only [mExpr, c3]
theorem pair_kind {A B : Md} (hA : A.Ok 125) (hB : B.Ok 125) (h : kindB A B = false) : f_check_pair [.val A.d, .val B.d] = some (.ex 2 [.val A.d, .val B.d]) := by
  refine run_ex (n := 2) (ins := [.val A.d, .val B.d]) (mb := m_check_pair) (ρ1 := [.val A.d, .val B.d]) (show m_check_pair [.val A.d, .val B.d] = _ from ?_)
  unfold m_check_pair
  have c1 := call_of (a := mConsV (mVar 0) mNilA) (ρ := [.val A.d, .val B.d]) (ρ1 := [.val A.d, .val B.d]) (ds := [A.d]) (consV_of rfl rfl rfl) (check_is hA) rfl (fun _ z => nomatch z)
  have c2 := call_of (a := mConsV (mVar 1) mNilA) (ρ := [.val A.d, .val B.d]) (ρ1 := [.val A.d, .val B.d]) (ds := [B.d]) (consV_of rfl rfl rfl) (check_is hB) rfl (fun _ z => nomatch z)
  have c3 := call_ex (a := mConsV (mVar 0) (mConsV (mVar 1) mNilA)) (ρ := [.val A.d, .val B.d]) (ρ1 := [.val A.d, .val B.d]) (ds := [A.d, B.d]) (consV_of rfl rfl (consV_of rfl rfl rfl)) (kind_no h) rfl
  rw [seq_nx (ρ1 := [.val A.d, .val B.d]) (by simp only [mExpr, c1]), seq_nx (ρ1 := [.val A.d, .val B.d]) (by simp only [mExpr, c2])]
  simp only [mExpr, c3]
theorem pair_first {a b : D} (hs : Sz 3 a) (h : modB a = false) : f_check_pair [.val a, .val b] = some (.ex 1 [.val a, .val b]) := by
  refine run_ex (n := 2) (ins := [.val a, .val b]) (mb := m_check_pair) (ρ1 := [.val a, .val b]) (show m_check_pair [.val a, .val b] = _ from ?_)
  unfold m_check_pair
  have c1 := call_ex (a := mConsV (mVar 0) mNilA) (ρ := [.val a, .val b]) (ρ1 := [.val a, .val b]) (ds := [a]) (consV_of rfl rfl rfl) (check_no a hs h) rfl
  exact seq_ex (by simp only [mExpr, c1])
theorem pair_second {A : Md} {b : D} (hA : A.Ok 125) (hs : Sz 3 b) (h : modB b = false) : f_check_pair [.val A.d, .val b] = some (.ex 1 [.val A.d, .val b]) := by
  refine run_ex (n := 2) (ins := [.val A.d, .val b]) (mb := m_check_pair) (ρ1 := [.val A.d, .val b]) (show m_check_pair [.val A.d, .val b] = _ from ?_)
  unfold m_check_pair
  have c1 := call_of (a := mConsV (mVar 0) mNilA) (ρ := [.val A.d, .val b]) (ρ1 := [.val A.d, .val b]) (ds := [A.d]) (consV_of rfl rfl rfl) (check_is hA) rfl (fun _ z => nomatch z)
  have c2 := call_ex (a := mConsV (mVar 1) mNilA) (ρ := [.val A.d, .val b]) (ρ1 := [.val A.d, .val b]) (ds := [b]) (consV_of rfl rfl rfl) (check_no b hs h) rfl
  rw [seq_nx (ρ1 := [.val A.d, .val b]) (by simp only [mExpr, c1])]
  exact seq_ex (by simp only [mExpr, c2])
end K02
set_option maxRecDepth 100000
set_option maxHeartbeats 2000000
namespace K02
open PySem PySem.Spec PyProof.Rows L2 Pi
theorem size_is (M : Md) : f_size [.val M.d] = some (.rt (.val (.int (sumN M.q M.N : Nat))) [.val M.d]) := by
  refine run_rt (n := 1) (ins := [.val M.d]) (mb := m_size) (r := .val (.int (sumN M.q M.N : Nat))) (ρ1 := [.val M.d]) (show m_size [.val M.d] = _ from ?_) rfl
  refine ret_of (un_of (p := .tuple M.ds) (op_of (p := M.d) (q := .int 2) rfl rfl rfl) rfl ?_)
  rw [← sumN_int]
  exact sum_tab M.q fun v => (M.N v : Nat)
theorem gt_ints (i j : Int) : fGt (.int i) (.int j) = some (.val (.bool (decide (j < i)))) := rfl
theorem big_test (A B : Md) (σ : List Pi.Slot) : mTru (mOp fGt (mOp fAdd (mCall f_size (mConsV (mVar 0) mNilA)) (mCall f_size (mConsV (mVar 1) mNilA))) (mC c_MOST_SIZE)) (.val A.d :: .val B.d :: σ) = some (.ok (decide (125 < sumN A.q A.N + sumN B.q B.N)) (.val A.d :: .val B.d :: σ)) := by
  have c1 := call_of (a := mConsV (mVar 0) mNilA) (ρ := .val A.d :: .val B.d :: σ) (ρ1 := .val A.d :: .val B.d :: σ) (ds := [A.d]) (consV_of rfl rfl rfl) (size_is A) rfl (fun _ z => nomatch z)
  have c2 := call_of (a := mConsV (mVar 1) mNilA) (ρ := .val A.d :: .val B.d :: σ) (ρ1 := .val A.d :: .val B.d :: σ) (ds := [B.d]) (consV_of rfl rfl rfl) (size_is B) rfl (fun _ z => nomatch z)
  have e : decide ((125 : Int) < (sumN A.q A.N : Nat) + (sumN B.q B.N : Nat)) = decide (125 < sumN A.q A.N + sumN B.q B.N) := by
    by_cases h : 125 < sumN A.q A.N + sumN B.q B.N
    · rw [decide_eq_true h, decide_eq_true (by omega)]
    · rw [decide_eq_false h, decide_eq_false (by omega)]
  rw [← e]
  exact tru_of_ok (op_of (op_of c1 c2 (add_ints _ _)) rfl (gt_ints _ _)) rfl rfl
theorem like_kind (A : Md) (N : Nat → Nat) (F : Nat → Nat → Nat → Int) : kindB A (A.like N F) = true := by
  unfold kindB
  have h : PyData.eqvAll A.as A.as = true := SeqAt.eqvAll_refl A.as (by simpa only [PyData.canLay0] using (as_lay (M := A)).1)
  show ((decide (A.p = A.p) && PyData.eqvAll A.as A.as) && decide (A.q = A.q)) = true
  rw [h]; simp
theorem add_run (A : Md) (N : Nat → Nat) (F : Nat → Nat → Nat → Int) (hA : A.Ok 125) (hB : (A.like N F).Ok 125) (hs : sumN A.q A.N + sumN A.q N ≤ 125) : ∃ ρ', m_add [.val A.d, .val (A.like N F).d, .un, .un, .un, .un, .un, .un, .un, .un, .un, .un, .un, .un] = some (.rt (.val (A.plus N F).d) ρ') ∧ left [.val A.d, .val (A.like N F).d] ρ' = [.val A.d, .val (A.like N F).d] := by
  have f5 := hA.few
  have q4 := hA.high
  generalize hBe : A.like N F = B at *
  have hBm : B.ms = tab A.m fun k => matD (N (A.T k)) (N (A.S k)) (F k) := by subst hBe; rfl
  have hBd : B.ds = tab A.q fun v => .int (N v : Nat) := by subst hBe; rfl
  have hBn : ∀ v, v < A.q → N v ≤ 125 := fun v hv => by have := hB.le (v := v) (by subst hBe; exact hv); subst hBe; exact this
  have hkB : kindB A B = true := by rw [← hBe]; exact like_kind A N F
  have hBs : sumN B.q B.N = sumN A.q N := by subst hBe; rfl
  unfold m_add
  let E := fun a b c d e f g : Pi.Slot => [Pi.Slot.val A.d, .val B.d, a, b, c, d, e, f, g, .un, .un, .un, .un, .un]
  have c1 := call_of (a := mConsV (mVar 0) (mConsV (mVar 1) mNilA)) (ρ := E .un .un .un .un .un .un .un) (ρ1 := E .un .un .un .un .un .un .un) (ds := [A.d, B.d]) (consV_of rfl rfl (consV_of rfl rfl rfl)) (pair_ok hA hB hkB) rfl (fun _ z => nomatch z)
  rw [seq_nx (ρ1 := E .un .un .un .un .un .un .un) (by
    show mExpr _ (E .un .un .un .un .un .un .un) = _
    simp only [mExpr, c1])]
  have tb := big_test A B [.un, .un, .un, .un, .un, .un, .un, .un, .un, .un, .un, .un]
  rw [decide_eq_false (by omega)] at tb
  rw [seq_nx (ρ1 := E .un .un .un .un .un .un .un) (by rw [if_f tb]; rfl)]
  let G := fun e f g : Pi.Slot => E (.val (.int A.p)) (.val (.tuple A.as)) (.val (.tuple A.ds)) (.val (.tuple A.ms)) e f g
  rw [seq_nx (ρ1 := G .un .un .un) rfl]
  rw [seq_nx (ρ1 := G (.val (.tuple B.ds)) .un .un) (set_of (i := 6) (ρ1 := G .un .un .un) (op_of (p := B.d) (q := .int 2) rfl rfl rfl) rfl)]
  have ez : iZip3 (mConsV (mVar 3) (mConsV (mVar 5) (mConsV (mOp fIx (mVar 1) (mC (.int 3))) mNilA))) (G (.val (.tuple B.ds)) .un .un) = some (.ok (tab A.m fun i => .tuple [.tuple [.int (A.S i : Nat), .int (A.T i : Nat)], matD (A.N (A.T i)) (A.N (A.S i)) (A.F i), matD (N (A.T i)) (N (A.S i)) (F i)]) (G (.val (.tuple B.ds)) .un .un)) := by
    refine zip3_of ?_ (by omega)
    rw [← hBm]
    exact consV_of rfl rfl (consV_of rfl rfl (consV_of (op_of (p := B.d) (q := .int 3) rfl rfl rfl) rfl rfl))
  have e1 := mLc_tab (g := gTL (gsCons (gTL (gsCons (gN 10) (gsCons (gN 11) gsNil))) (gsCons (gN 8) (gsCons (gN 9) gsNil)))) (e := E1_add) (vs := [10, 11, 8, 9])
    (f := fun k => matD ((A.plus N F).N (A.T k)) ((A.plus N F).N (A.S k)) ((A.plus N F).F k)) ez (by omega) rfl fun k hk => by
      have a1 := hA.le (hA.src k hk)
      have a2 := hA.le (hA.tgt k hk)
      have b1 := hBn _ (hA.src k hk)
      have b2 := hBn _ (hA.tgt k hk)
      refine ⟨[Pi.Slot.val A.d, .val B.d, .val (.int A.p), .val (.tuple A.as), .val (.tuple A.ds), .val (.tuple A.ms), .val (.tuple B.ds), .un, .val (matD (A.N (A.T k)) (A.N (A.S k)) (A.F k)), .val (matD (N (A.T k)) (N (A.S k)) (F k)), .val (.int (A.S k : Nat)), .val (.int (A.T k : Nat)), .un, .un], .val (matD ((A.plus N F).N (A.T k)) ((A.plus N F).N (A.S k)) ((A.plus N F).F k)), rfl, ?_, rfl, rfl, rfl⟩
      exact call_of (ds := [matD (A.N (A.T k)) (A.N (A.S k)) (A.F k), matD (N (A.T k)) (N (A.S k)) (F k), .int (A.N (A.S k) : Nat), .int (N (A.S k) : Nat)])
        (consV_of rfl rfl (consV_of rfl rfl (consV_of (op_of (p := .tuple A.ds) (q := .int (A.S k : Nat)) rfl rfl (ix_tab (f := fun v => .int (A.N v : Nat)) (hA.src k hk))) rfl (consV_of (op_of (p := .tuple B.ds) (q := .int (A.S k : Nat)) rfl rfl (by rw [hBd]; exact ix_tab (f := fun v => .int (N v : Nat)) (hA.src k hk))) rfl rfl))))
        (blocks_is _ _ _ _ _ _ (by omega) (by omega) (by omega) (by omega)) rfl (fun _ z => nomatch z)
  rw [seq_nx (ρ1 := G (.val (.tuple B.ds)) (.own (.list (A.plus N F).ms) false) .un) (setO_of (i := 7) (ρ1 := G (.val (.tuple B.ds)) .un .un) e1 rfl)]
  have ez2 : iZip (mConsV (mVar 4) (mConsV (mVar 6) mNilA)) (G (.val (.tuple B.ds)) (.own (.list (A.plus N F).ms) false) .un) = some (.ok (tab A.q fun v => .tuple [.int (A.N v : Nat), .int (N v : Nat)]) (G (.val (.tuple B.ds)) (.own (.list (A.plus N F).ms) false) .un)) := by
    refine zip_of ?_ (by omega)
    rw [← hBd]
    exact consV_of rfl rfl (consV_of rfl rfl rfl)
  have e2 := mLc_tab (g := gTL (gsCons (gN 12) (gsCons (gN 13) gsNil))) (e := E2_add) (vs := [12, 13]) (f := fun v => .int ((A.plus N F).N v : Nat)) ez2 (by omega) rfl fun k hk =>
    ⟨[Pi.Slot.val A.d, .val B.d, .val (.int A.p), .val (.tuple A.as), .val (.tuple A.ds), .val (.tuple A.ms), .val (.tuple B.ds), .own (.list (A.plus N F).ms) false, .un, .un, .un, .un, .val (.int (A.N k : Nat)), .val (.int (N k : Nat))], .val (.int ((A.plus N F).N k : Nat)), rfl, op_of (p := .int (A.N k : Nat)) (q := .int (N k : Nat)) rfl rfl (add_ints _ _), rfl, rfl, rfl⟩
  exact ⟨_, ret_of (tup_of (ds := [.int A.p, .tuple A.as, .tuple (A.plus N F).ds, .tuple (A.plus N F).ms]) (consV_of rfl rfl (consV_of rfl rfl (consV_of (un_of (p := .list (A.plus N F).ds) e2 rfl rfl) rfl (consV_of (un_of (p := .list (A.plus N F).ms) rfl rfl rfl) rfl rfl)))) rfl (by simp)), rfl⟩
theorem add_is (A : Md) (N : Nat → Nat) (F : Nat → Nat → Nat → Int) (hA : A.Ok 125) (hB : (A.like N F).Ok 125) (hs : sumN A.q A.N + sumN A.q N ≤ 125) : f_add [.val A.d, .val (A.like N F).d] = some (.rt (.val (A.plus N F).d) [.val A.d, .val (A.like N F).d]) := by
  obtain ⟨ρ', e, hl⟩ := add_run A N F hA hB hs
  have := run_rt (n := 14) (ins := [.val A.d, .val (A.like N F).d]) (mb := m_add) e rfl
  rw [hl] at this
  exact this
theorem add_ex {a b : D} {c : Nat} (h : f_check_pair [.val a, .val b] = some (.ex c [.val a, .val b])) : f_add [.val a, .val b] = some (.ex c [.val a, .val b]) := by
  have c1 := call_ex (a := mConsV (mVar 0) (mConsV (mVar 1) mNilA)) (ρ := [.val a, .val b, .un, .un, .un, .un, .un, .un, .un, .un, .un, .un, .un, .un]) (ρ1 := [.val a, .val b, .un, .un, .un, .un, .un, .un, .un, .un, .un, .un, .un, .un]) (ds := [a, b]) (consV_of rfl rfl (consV_of rfl rfl rfl)) h rfl
  refine run_ex (n := 14) (ins := [.val a, .val b]) (mb := m_add) (ρ1 := [.val a, .val b, .un, .un, .un, .un, .un, .un, .un, .un, .un, .un, .un, .un]) (show m_add [.val a, .val b, .un, .un, .un, .un, .un, .un, .un, .un, .un, .un, .un, .un] = _ from ?_)
  unfold m_add
  exact seq_ex (by simp only [mExpr, c1])
theorem add_big {A B : Md} (hA : A.Ok 125) (hB : B.Ok 125) (h : kindB A B = true) (hs : 125 < sumN A.q A.N + sumN B.q B.N) : f_add [.val A.d, .val B.d] = some (.ex 3 [.val A.d, .val B.d]) := by
  have c1 := call_of (a := mConsV (mVar 0) (mConsV (mVar 1) mNilA)) (ρ := [.val A.d, .val B.d, .un, .un, .un, .un, .un, .un, .un, .un, .un, .un, .un, .un]) (ρ1 := [.val A.d, .val B.d, .un, .un, .un, .un, .un, .un, .un, .un, .un, .un, .un, .un]) (ds := [A.d, B.d]) (consV_of rfl rfl (consV_of rfl rfl rfl)) (pair_ok hA hB h) rfl (fun _ z => nomatch z)
  refine run_ex (n := 14) (ins := [.val A.d, .val B.d]) (mb := m_add) (ρ1 := [.val A.d, .val B.d, .un, .un, .un, .un, .un, .un, .un, .un, .un, .un, .un, .un]) (show m_add [.val A.d, .val B.d, .un, .un, .un, .un, .un, .un, .un, .un, .un, .un, .un, .un] = _ from ?_)
  unfold m_add
  rw [seq_nx (ρ1 := [.val A.d, .val B.d, .un, .un, .un, .un, .un, .un, .un, .un, .un, .un, .un, .un]) (by simp only [mExpr, c1])]
  have tb := big_test A B [.un, .un, .un, .un, .un, .un, .un, .un, .un, .un, .un, .un]
  rw [decide_eq_true hs] at tb
  exact seq_ex (by rw [if_t tb]; rfl)
/-! ### the words of the law -/
theorem word_ex {a b : D} {c : Nat} (h : f_add [.val a, .val b] = some (.ex c [.val a, .val b])) (w : Str) (hw : (c = 1 ∧ w = "module") ∨ (c = 2 ∧ w = "argument") ∨ (c = 3 ∧ w = "large")) : f__law_word [.val a, .val b] = some (.rt (.val (.str w)) [.val a, .val b]) := by
  have c1 := call_ex (a := mConsV (mVar 0) (mConsV (mVar 1) mNilA)) (ρ := [.val a, .val b, .un]) (ρ1 := [.val a, .val b, .un]) (ds := [a, b]) (consV_of rfl rfl (consV_of rfl rfl rfl)) h rfl
  refine run_rt (n := 3) (ins := [.val a, .val b]) (mb := m__law_word) (r := .val (.str w)) (ρ1 := [.val a, .val b, .un]) (show m__law_word [.val a, .val b, .un] = _ from ?_) rfl
  unfold m__law_word
  have b1 : mExpr (mCall f_add (mConsV (mVar 0) (mConsV (mVar 1) mNilA))) [.val a, .val b, .un] = some (.ex c [.val a, .val b, .un]) := by simp only [mExpr, c1]
  rcases hw with ⟨rfl, rfl⟩ | ⟨rfl, rfl⟩ | ⟨rfl, rfl⟩
  · exact seq_rt (by simp [mTry, b1, isa, nrm, isUn, orR])
  · exact seq_rt (by simp [mTry, b1, isa, nrm, isUn, orR])
  · exact seq_rt (by simp [mTry, b1, isa, nrm, isUn, orR])
theorem word_none {a b r : D} (h : f_add [.val a, .val b] = some (.rt (.val r) [.val a, .val b])) : f__law_word [.val a, .val b] = some (.rt (.val (.str "none")) [.val a, .val b]) := by
  have c1 := call_of (a := mConsV (mVar 0) (mConsV (mVar 1) mNilA)) (ρ := [.val a, .val b, .un]) (ρ1 := [.val a, .val b, .un]) (ds := [a, b]) (consV_of rfl rfl (consV_of rfl rfl rfl)) h rfl (fun _ z => nomatch z)
  refine run_rt (n := 3) (ins := [.val a, .val b]) (mb := m__law_word) (r := .val (.str "none")) (ρ1 := [.val a, .val b, .un]) (show m__law_word [.val a, .val b, .un] = _ from ?_) rfl
  unfold m__law_word
  have b1 : mExpr (mCall f_add (mConsV (mVar 0) (mConsV (mVar 1) mNilA))) [.val a, .val b, .un] = some (.nx [.val a, .val b, .un]) := by simp only [mExpr, c1]
  rw [seq_nx (ρ1 := [.val a, .val b, .un]) (by simp only [mTry, b1])]
  rfl
end K02
set_option maxRecDepth 100000
set_option maxHeartbeats 2000000
namespace K02
open PySem PySem.Spec PyProof.Rows L2 Pi
/-! ### the law's own equality, at equal data -/
/-- data without dicts, n deep, its rows of a bearable length -/
def Nst : Nat → D → Prop
  | 0, d => match d with
    | .list _ => False
    | .tuple _ => False
    | .dict _ => False
    | _ => True
  | n + 1, d => match d with
    | .list xs => xs.length ≤ 1000000 ∧ ∀ x ∈ xs, Nst n x
    | .tuple xs => xs.length ≤ 1000000 ∧ ∀ x ∈ xs, Nst n x
    | .dict _ => False
    | _ => True
theorem isB_tu {k : Nat} : True := trivial
abbrev q0 (k : Nat) : Pi.Env → Option Out := rec__law_equal k 0
abbrev q1 (k : Nat) : Pi.Env → Option Out := rec__law_equal k 1
theorem ix_any' {xs : List D} {i : Nat} {d : D} (h : xs[i]? = some d) : fIx (.tuple xs) (.int (i : Nat)) = some (.val d) ∧ fIx (.list xs) (.int (i : Nat)) = some (.val d) := by
  have hi : i < xs.length := (List.getElem?_eq_some_iff.mp h).1
  constructor <;> simp only [fIx, itemsD, atI, ix_nat hi, Option.bind_some, h]
theorem all_eq {k : Nat} {d : D} {xs : List D} (hd : d = .list xs ∨ d = .tuple xs) (hl : xs.length ≤ 1000000) (h : ∀ x ∈ xs, q0 k [.val x, .val x] = some (.rt (.val (.bool true)) [.val x, .val x])) :
    q1 (k + 1) [.val d, .val d] = some (.rt (.val (.bool true)) [.val d, .val d]) := by
  have hlen : fLen d = some (.val (.int (xs.length : Nat))) := by rcases hd with rfl | rfl <;> rfl
  have hix : ∀ (i : Nat) (x : D), xs[i]? = some x → fIx d (.int (i : Nat)) = some (.val x) := fun i x hx => by
    rcases hd with rfl | rfl
    · exact (ix_any' hx).2
    · exact (ix_any' hx).1
  obtain ⟨ρ', e, s, rfl, hs⟩ := forL_all (g := gN 2) (body := L1__law_all_equal (q0 k) (q1 k)) (fun _ ρ => ∃ s, ρ = [.val d, .val d, s] ∧ fr s = true) ((List.range xs.length).map fun i => PyData.int (i : Nat)) 0 [.val d, .val d, .un] ⟨.un, rfl, rfl⟩ fun j y ρ hy hI => by
    obtain ⟨s, rfl, hs⟩ := hI
    obtain ⟨hj, rfl⟩ := get_rng hy
    have hx : xs[j]? = some xs[j] := List.getElem?_eq_getElem hj
    have c := call_of (f := q0 k) (a := mConsV (mOp fIx (mVar 0) (mVar 2)) (mConsV (mOp fIx (mVar 1) (mVar 2)) mNilA)) (ρ := [.val d, .val d, .val (.int (j : Nat))]) (ρ1 := [.val d, .val d, .val (.int (j : Nat))]) (ds := [xs[j], xs[j]])
      (consV_of (op_of (p := d) (q := .int (j : Nat)) rfl rfl (hix j _ hx)) rfl (consV_of (op_of (p := d) (q := .int (j : Nat)) rfl rfl (hix j _ hx)) rfl rfl)) (h _ (List.getElem_mem hj)) rfl (fun _ z => nomatch z)
    refine ⟨_, gN_of (by rw [free_eq]; exact hs), [.val d, .val d, .val (.int (j : Nat))], ?_, .val (.int (j : Nat)), rfl, rfl⟩
    unfold L1__law_all_equal
    show mIf _ _ _ [.val d, .val d, .val (.int (j : Nat))] = _
    rw [if_f (tnot_of (v := true) (tru_of_ok c rfl rfl))]
    rfl
  refine run_rt (n := 3) (ins := [.val d, .val d]) (mb := m__law_all_equal (q0 k) (q1 k)) (r := .val (.bool true)) (ρ1 := [.val d, .val d, s]) (show m__law_all_equal (q0 k) (q1 k) [.val d, .val d, .un] = _ from ?_) rfl
  unfold m__law_all_equal
  rw [seq_nx (by rw [for_of (rng_of xs.length hl (un_of (p := d) rfl rfl hlen))]; exact e)]
  rfl
theorem len_ne (n : Nat) {d : D} (h : fLen d = some (.val (.int (n : Nat)))) (σ : List Pi.Slot) : mTru (mOp fNe (mUn fLen (mVar 0)) (mUn fLen (mVar 1))) (.val d :: .val d :: σ) = some (.ok false (.val d :: .val d :: σ)) :=
  tru_of_ok (op_of (un_of (p := d) rfl rfl h) (un_of (p := d) rfl rfl h) (ne_ints _ _)) rfl (by simp [truD_bool])
theorem equal_self : ∀ (n : Nat) (d : D), Nst n d → ∀ k : Nat, q0 (2 * n + 1 + k) [.val d, .val d] = some (.rt (.val (.bool true)) [.val d, .val d]) := by
  have leaf : ∀ (d : D), Nst 0 d → ∀ k : Nat, q0 (k + 1) [.val d, .val d] = some (.rt (.val (.bool true)) [.val d, .val d]) := fun d hd k => by
    refine run_rt (n := 2) (ins := [.val d, .val d]) (mb := m__law_equal (q0 k) (q1 k)) (r := .val (.bool true)) (ρ1 := [.val d, .val d]) (show m__law_equal (q0 k) (q1 k) [.val d, .val d] = _ from ?_) rfl
    cases d with
    | none => rfl
    | bool b => cases b <;> rfl
    | int i =>
      unfold m__law_equal
      rw [seq_nx (ρ1 := [.val (.int i), .val (.int i)]) rfl, seq_nx (ρ1 := [.val (.int i), .val (.int i)]) rfl, seq_nx (ρ1 := [.val (.int i), .val (.int i)]) rfl]
      refine seq_rt ?_
      rw [if_t (ρ1 := [.val (.int i), .val (.int i)]) rfl]
      refine ret_of ?_
      rw [and_t (ρ1 := [.val (.int i), .val (.int i)]) rfl, and_t (ρ1 := [.val (.int i), .val (.int i)]) rfl]
      exact op_of rfl rfl (by rw [eq_ints]; simp)
    | str x =>
      unfold m__law_equal
      rw [seq_nx (ρ1 := [.val (.str x), .val (.str x)]) rfl, seq_nx (ρ1 := [.val (.str x), .val (.str x)]) rfl, seq_nx (ρ1 := [.val (.str x), .val (.str x)]) rfl, seq_nx (ρ1 := [.val (.str x), .val (.str x)]) rfl]
      refine seq_rt ?_
      rw [if_t (ρ1 := [.val (.str x), .val (.str x)]) rfl]
      refine ret_of ?_
      rw [and_t (ρ1 := [.val (.str x), .val (.str x)]) rfl]
      exact op_of rfl rfl (show fEq (.str x) (.str x) = some (.val (.bool true)) by simp [fEq, fOr, fEqS])
    | list xs => exact hd.elim
    | tuple xs => exact hd.elim
    | dict xs => exact hd.elim
  intro n
  induction n with
  | zero => intro d hd k; rw [show 2 * 0 + 1 + k = k + 1 by omega]; exact leaf d hd k
  | succ n ih =>
    intro d hd k
    rw [show 2 * (n + 1) + 1 + k = (2 * n + 1 + k) + 1 + 1 by omega]
    generalize hk : (2 * n + 1 + k) = k' at *
    have ih' : ∀ x, Nst n x → q0 k' [.val x, .val x] = some (.rt (.val (.bool true)) [.val x, .val x]) := fun x hx => by rw [← hk]; exact ih x hx k
    have rows : ∀ xs, (d = .list xs ∨ d = .tuple xs) → xs.length ≤ 1000000 → (∀ x ∈ xs, Nst n x) → q0 (k' + 1 + 1) [.val d, .val d] = some (.rt (.val (.bool true)) [.val d, .val d]) := fun xs hdx hl hx => by
      have a := all_eq (k := k') hdx hl fun x hm => ih' x (hx x hm)
      have c := call_of (f := q1 (k' + 1)) (a := mConsV (mVar 0) (mConsV (mVar 1) mNilA)) (ρ := [.val d, .val d]) (ρ1 := [.val d, .val d]) (ds := [d, d]) (consV_of rfl rfl (consV_of rfl rfl rfl)) a rfl (fun _ z => nomatch z)
      refine run_rt (n := 2) (ins := [.val d, .val d]) (mb := m__law_equal (q0 (k' + 1)) (q1 (k' + 1))) (r := .val (.bool true)) (ρ1 := [.val d, .val d]) (show m__law_equal (q0 (k' + 1)) (q1 (k' + 1)) [.val d, .val d] = _ from ?_) rfl
      unfold m__law_equal
      rcases hdx with rfl | rfl
      · refine seq_rt ?_
        rw [if_t (ρ1 := [.val (.list xs), .val (.list xs)]) rfl]
        rw [seq_nx (ρ1 := [.val (.list xs), .val (.list xs)]) (by rw [if_f (by rw [tor_f (ρ1 := [.val (.list xs), .val (.list xs)]) rfl]; exact len_ne xs.length rfl [])]; rfl)]
        exact ret_of c
      · rw [seq_nx (ρ1 := [.val (.tuple xs), .val (.tuple xs)]) rfl]
        refine seq_rt ?_
        rw [if_t (ρ1 := [.val (.tuple xs), .val (.tuple xs)]) rfl]
        rw [seq_nx (ρ1 := [.val (.tuple xs), .val (.tuple xs)]) (by rw [if_f (by rw [tor_f (ρ1 := [.val (.tuple xs), .val (.tuple xs)]) rfl]; exact len_ne xs.length rfl [])]; rfl)]
        exact ret_of c
    cases d with
    | list xs => exact rows xs (.inl rfl) hd.1 hd.2
    | tuple xs => exact rows xs (.inr rfl) hd.1 hd.2
    | dict xs => exact hd.elim
    | none => exact leaf .none trivial _
    | bool b => exact leaf (.bool b) trivial _
    | int i => exact leaf (.int i) trivial _
    | str x => exact leaf (.str x) trivial _
theorem equal_is {d : D} (h : Nst 4 d) : f__law_equal [.val d, .val d] = some (.rt (.val (.bool true)) [.val d, .val d]) := equal_self 4 d h 7
theorem nst_mat {r c : Nat} {f : Nat → Nat → Int} (hr : r ≤ 1000) (hc : c ≤ 1000) : Nst 2 (matD r c f) := by
  refine ⟨by rw [tab_len]; omega, fun x hx => ?_⟩
  obtain ⟨i, hi, rfl⟩ := mem_tab hx
  refine ⟨by rw [tab_len]; omega, fun x hx => ?_⟩
  obtain ⟨j, hj, rfl⟩ := mem_tab hx
  exact trivial
theorem nst_md {M : Md} {b : Nat} (h : M.Ok b) (hb : b ≤ 1000) : Nst 4 M.d := by
  have f := h.few
  have q := h.high
  refine ⟨by simp, fun x hx => ?_⟩
  simp only [List.mem_cons, List.not_mem_nil, or_false] at hx
  rcases hx with rfl | rfl | rfl | rfl
  · exact trivial
  · refine ⟨by unfold Md.as; rw [tab_len]; omega, fun y hy => ?_⟩
    obtain ⟨k, hk, rfl⟩ := mem_tab (show y ∈ tab M.m _ from hy)
    refine ⟨by simp, fun z hz => ?_⟩
    simp only [List.mem_cons, List.not_mem_nil, or_false] at hz
    rcases hz with rfl | rfl <;> exact trivial
  · refine ⟨by unfold Md.ds; rw [tab_len]; omega, fun y hy => ?_⟩
    obtain ⟨k, hk, rfl⟩ := mem_tab (show y ∈ tab M.q _ from hy)
    exact trivial
  · refine ⟨by unfold Md.ms; rw [tab_len]; omega, fun y hy => ?_⟩
    obtain ⟨k, hk, rfl⟩ := mem_tab (show y ∈ tab M.m _ from hy)
    have := h.le (h.src k hk)
    have := h.le (h.tgt k hk)
    exact nst_mat (by omega) (by omega)
/-! ### the law's own turned module -/
theorem lturned_run (M : Md) (h : M.Ok 125) : ∃ ρ', m__law_turned [.val M.d, .un, .un, .un, .un, .un, .un, .un, .un, .un, .un] = some (.rt (.val M.turn.d) ρ') ∧ left [.val M.d] ρ' = [.val M.d] := by
  have f5 := h.few
  unfold m__law_turned
  let E := fun a b c d e f : Pi.Slot => [Pi.Slot.val M.d, .val (.int M.p), .val (.tuple M.as), .val (.tuple M.ds), .val (.tuple M.ms), a, b, c, d, e, f]
  rw [seq_nx (ρ1 := E .un .un .un .un .un .un) rfl]
  rw [seq_nx (ρ1 := E (.own (.list []) false) .un .un .un .un .un) (setO_of (i := 5) (ρ1 := E .un .un .un .un .un .un) rfl rfl)]
  obtain ⟨ρ', e, k', s', t', rfl, q1, q2, q3⟩ := forL_all (g := gN 6) (body := L3__law_turned) (fun i ρ => ∃ k s t : Pi.Slot, ρ = E (.own (.list (tab i fun k => matD (M.N (M.S k)) (M.N (M.T k)) fun i j => M.F k j i)) false) k s t .un .un ∧ fr k = true ∧ vf s = true ∧ vf t = true)
    ((List.range M.m).map fun i => PyData.int (i : Nat)) 0 (E (.own (.list []) false) .un .un .un .un .un) ⟨.un, .un, .un, rfl, rfl, rfl, rfl⟩ fun k y ρ hy hI => by
      obtain ⟨k0, s, t, rfl, g1, g2, g3⟩ := hI
      obtain ⟨hk, rfl⟩ := get_rng hy
      rw [show 0 + k = k by omega]
      have hS := h.src k hk
      have hT := h.tgt k hk
      have nS := h.le hS
      have nT := h.le hT
      refine ⟨_, gN_of (by rw [free_eq]; exact g1), E (.own (.list (tab (k + 1) fun k => matD (M.N (M.S k)) (M.N (M.T k)) fun i j => M.F k j i)) false) (.val (.int (k : Nat))) (.val (.int (M.S k : Nat))) (.val (.int (M.T k : Nat))) .un .un, ?_, .val (.int (k : Nat)), _, _, rfl, rfl, rfl, rfl⟩
      generalize hacc : (tab k fun k => matD (M.N (M.S k)) (M.N (M.T k)) fun i j => M.F k j i) = acc
      have hal : acc.length = k := by rw [← hacc, tab_len]
      unfold L3__law_turned
      let G := fun a b : Pi.Slot => E (.own (.list acc) false) (.val (.int (k : Nat))) (.val (.int (M.S k : Nat))) (.val (.int (M.T k : Nat))) a b
      show mSeq _ _ (E (.own (.list acc) false) (.val (.int (k : Nat))) s t .un .un) = _
      have hg : gTL (gsCons (gN 7) (gsCons (gN 8) gsNil)) (.tuple [.int (M.S k : Nat), .int (M.T k : Nat)]) (E (.own (.list acc) false) (.val (.int (k : Nat))) s t .un .un) = some (G .un .un) :=
        g2_of (by rw [free_eq]; exact vf_fr g2) (by rw [free_eq]; exact vf_fr g3)
      have hun := unp_of (m := mOp fIx (mVar 2) (mVar 6)) (ρ := E (.own (.list acc) false) (.val (.int (k : Nat))) s t .un .un) (op_of (p := .tuple M.as) (q := .int (k : Nat)) rfl rfl (ix_tab (f := fun k => .tuple [.int (M.S k : Nat), .int (M.T k : Nat)]) hk)) hg
      rw [seq_nx hun]
      have inner : ∀ a, a < M.N (M.S k) → mLc (iRng1 (mOp fIx (mVar 3) (mVar 8))) (gN 10) mYes E1__law_turned [10] (G (.val (.int (a : Nat))) .un) = some (.ok (.own (.list (tab (M.N (M.T k)) fun i => .int (M.F k i a)))) (G (.val (.int (a : Nat))) .un)) := fun a ha =>
        mLc_tab (n := M.N (M.T k)) (f := fun i => .int (M.F k i a)) (rng_tabs (M.N (M.T k)) (by omega) (op_of (p := .tuple M.ds) (q := .int (M.T k : Nat)) rfl rfl (ix_tab (f := fun v => .int (M.N v : Nat)) hT))) (by omega) rfl fun i hi =>
          ⟨G (.val (.int (a : Nat))) (.val (.int (i : Nat))), .val (.int (M.F k i a)), rfl, op_of (p := rowD (M.N (M.S k)) (M.F k i)) (q := .int (a : Nat)) (op_of (p := matD (M.N (M.T k)) (M.N (M.S k)) (M.F k)) (q := .int (i : Nat)) (op_of (p := .tuple M.ms) (q := .int (k : Nat)) rfl rfl (ix_tab (f := fun k => matD (M.N (M.T k)) (M.N (M.S k)) (M.F k)) hk)) rfl (ix_tab (f := fun i => rowD (M.N (M.S k)) (M.F k i)) hi)) rfl (ix_tab (f := fun j => .int (M.F k i j)) ha), rfl, rfl, rfl⟩
      have outer := mLc_tab (g := gN 9) (e := E2__law_turned) (vs := [9]) (n := M.N (M.S k)) (h := fun i => .int (i : Nat)) (f := fun a => rowD (M.N (M.T k)) fun i => M.F k i a) (it := iRng1 (mOp fIx (mVar 3) (mVar 7))) (ρ := G .un .un) (ρ1 := G .un .un)
        (rng_tabs (M.N (M.S k)) (by omega) (op_of (p := .tuple M.ds) (q := .int (M.S k : Nat)) rfl rfl (ix_tab (f := fun v => .int (M.N v : Nat)) hS))) (by omega) rfl fun a ha =>
          ⟨G (.val (.int (a : Nat))) .un, .val (rowD (M.N (M.T k)) fun i => M.F k i a), rfl, un_of (p := .list (tab (M.N (M.T k)) fun i => .int (M.F k i a))) (inner a ha) rfl rfl, rfl, rfl, rfl⟩
      have := app_of (i := 5) (m := mUn fTuple (mLc (iRng1 (mOp fIx (mVar 3) (mVar 7))) (gN 9) mYes E2__law_turned [9])) (ρ := G .un .un) (ρ1 := G .un .un) (l := acc) (ds := acc) (b := false) (b' := false) rfl (un_of (p := .list _) outer rfl rfl) rfl (by omega)
      rw [this]
      rw [← hacc]
      have ts := tab_succ k fun k => matD (M.N (M.S k)) (M.N (M.T k)) fun i j => M.F k j i
      show some (O.nx (E (.own (.list (tab k _ ++ [matD (M.N (M.S k)) (M.N (M.T k)) fun i j => M.F k j i])) false) (.val (.int (k : Nat))) (.val (.int (M.S k : Nat))) (.val (.int (M.T k : Nat))) .un .un)) = _
      rw [ts]
  have hrun : mFor (iRng1 (mUn fLen (mVar 2))) (gN 6) L3__law_turned (E (.own (.list []) false) .un .un .un .un .un) = some (.nx (E (.own (.list M.turn.ms) false) k' s' t' .un .un)) := by
    rw [for_of (rng_of M.m (by omega) (un_of (p := .tuple M.as) rfl rfl len_tab))]
    simp only [List.length_map, List.length_range, Nat.zero_add] at e
    rw [e]
    rfl
  rw [seq_nx hrun]
  have e2 := mLc_tab (g := gTL (gsCons (gN 7) (gsCons (gN 8) gsNil))) (e := E4__law_turned) (vs := [7, 8]) (it := iSeq (mVar 2)) (h := fun k => .tuple [.int (M.S k : Nat), .int (M.T k : Nat)])
    (f := fun k => .tuple [.int (M.T k : Nat), .int (M.S k : Nat)]) (ρ := E (.own (.list M.turn.ms) false) k' s' t' .un .un) (ρ1 := E (.own (.list M.turn.ms) false) k' s' t' .un .un)
    (seq_tab (n := M.m) rfl rfl (by omega)) (by omega) (by simp [frees, vfree_at (i := 7) (ρ := E (.own (.list M.turn.ms) false) k' s' t' .un .un) rfl q2, vfree_at (i := 8) (ρ := E (.own (.list M.turn.ms) false) k' s' t' .un .un) rfl q3]) fun k hk =>
      ⟨E (.own (.list M.turn.ms) false) k' (.val (.int (M.S k : Nat))) (.val (.int (M.T k : Nat))) .un .un, _, rfl, tup_of (consV_of rfl rfl (consV_of rfl rfl rfl)) rfl (by simp), rfl, rfl, rfl⟩
  exact ⟨_, ret_of (tup_of (ds := [.int M.p, .tuple M.turn.as, .tuple M.ds, .tuple M.turn.ms]) (consV_of rfl rfl (consV_of (un_of (p := .list M.turn.as) e2 rfl rfl) rfl (consV_of rfl rfl (consV_of (un_of (p := .list M.turn.ms) rfl rfl rfl) rfl rfl)))) rfl (by simp)), rfl⟩
end K02
set_option maxRecDepth 100000
set_option maxHeartbeats 2000000
namespace K02
open PySem PySem.Spec PyProof.Rows L2 Pi
theorem lturned_is (M : Md) (h : M.Ok 125) : f__law_turned [.val M.d] = some (.rt (.val M.turn.d) [.val M.d]) := by
  obtain ⟨ρ', e, hl⟩ := lturned_run M h
  have := run_rt (n := 11) (ins := [.val M.d]) (mb := m__law_turned) e rfl
  rw [hl] at this
  exact this
/-! ### the law's own sum -/
theorem lsum_run (A : Md) (N : Nat → Nat) (F : Nat → Nat → Nat → Int) (hA : A.Ok 125) (hB : (A.like N F).Ok 125) : ∃ ρ', m__law_sum [.val A.d, .val (A.like N F).d, .un, .un, .un, .un, .un, .un, .un, .un, .un, .un, .un] = some (.rt (.val (A.plus N F).d) ρ') ∧ left [.val A.d, .val (A.like N F).d] ρ' = [.val A.d, .val (A.like N F).d] := by
  have f5 := hA.few
  have q4 := hA.high
  generalize hBe : A.like N F = B at *
  have hBm : B.ms = tab A.m fun k => matD (N (A.T k)) (N (A.S k)) (F k) := by subst hBe; rfl
  have hBd : B.ds = tab A.q fun v => .int (N v : Nat) := by subst hBe; rfl
  have hBn : ∀ v, v < A.q → N v ≤ 125 := fun v hv => by have := hB.le (v := v) (by subst hBe; exact hv); subst hBe; exact this
  unfold m__law_sum
  let E := fun a b c d e f g : Pi.Slot => [Pi.Slot.val A.d, .val B.d, .val (.int A.p), .val (.tuple A.as), .val (.tuple A.ds), .val (.tuple A.ms), a, b, c, d, e, f, g]
  rw [seq_nx (ρ1 := E .un .un .un .un .un .un .un) rfl]
  rw [seq_nx (ρ1 := E (.own (.list []) false) .un .un .un .un .un .un) (setO_of (i := 6) (ρ1 := E .un .un .un .un .un .un .un) rfl rfl)]
  obtain ⟨ρ', e, k', s', t', r', rfl, q1, q2, q3, q5⟩ := forL_all (g := gN 7) (body := L3__law_sum) (fun i ρ => ∃ k s t r : Pi.Slot, ρ = E (.own (.list (tab i fun k => matD ((A.plus N F).N (A.T k)) ((A.plus N F).N (A.S k)) ((A.plus N F).F k))) false) k s t r .un .un ∧ fr k = true ∧ fr s = true ∧ fr t = true ∧ fr r = true)
    ((List.range A.m).map fun i => PyData.int (i : Nat)) 0 (E (.own (.list []) false) .un .un .un .un .un .un) ⟨.un, .un, .un, .un, rfl, rfl, rfl, rfl, rfl⟩ fun k y ρ hy hI => by
      obtain ⟨k0, s, t, r, rfl, g1, g2, g3, g4⟩ := hI
      obtain ⟨hk, rfl⟩ := get_rng hy
      rw [show 0 + k = k by omega]
      have hS := hA.src k hk
      have hT := hA.tgt k hk
      have nS := hA.le hS
      have nT := hA.le hT
      have mS := hBn _ hS
      have mT := hBn _ hT
      let up := tab (A.N (A.T k)) fun i => rowD (A.N (A.S k) + N (A.S k)) fun j => if j < A.N (A.S k) then A.F k i j else 0
      let lo := tab (N (A.T k)) fun i => rowD (A.N (A.S k) + N (A.S k)) fun j => if j < A.N (A.S k) then 0 else F k i (j - A.N (A.S k))
      refine ⟨_, gN_of (by rw [free_eq]; exact g1), E (.own (.list (tab (k + 1) fun k => matD ((A.plus N F).N (A.T k)) ((A.plus N F).N (A.S k)) ((A.plus N F).F k))) false) (.val (.int (k : Nat))) (.val (.int (A.S k : Nat))) (.val (.int (A.T k : Nat))) (.own (.list (up ++ lo)) false) .un .un, ?_, .val (.int (k : Nat)), _, _, _, rfl, rfl, rfl, rfl, rfl⟩
      have ts := tab_succ k fun k => matD ((A.plus N F).N (A.T k)) ((A.plus N F).N (A.S k)) ((A.plus N F).F k)
      rw [← ts]
      have hal : (tab k fun k => matD ((A.plus N F).N (A.T k)) ((A.plus N F).N (A.S k)) ((A.plus N F).F k)).length = k := tab_len _ _
      generalize (tab k fun k => matD ((A.plus N F).N (A.T k)) ((A.plus N F).N (A.S k)) ((A.plus N F).F k)) = acc at *
      unfold L3__law_sum
      let G := fun a b : Pi.Slot => E (.own (.list acc) false) (.val (.int (k : Nat))) (.val (.int (A.S k : Nat))) (.val (.int (A.T k : Nat))) a b .un
      show mSeq _ _ (E (.own (.list acc) false) (.val (.int (k : Nat))) s t r .un .un) = _
      have hg : gTL (gsCons (gN 8) (gsCons (gN 9) gsNil)) (.tuple [.int (A.S k : Nat), .int (A.T k : Nat)]) (E (.own (.list acc) false) (.val (.int (k : Nat))) s t r .un .un) = some (G r .un) :=
        g2_of (by rw [free_eq]; exact g2) (by rw [free_eq]; exact g3)
      have hun := unp_of (m := mOp fIx (mVar 3) (mVar 7)) (ρ := E (.own (.list acc) false) (.val (.int (k : Nat))) s t r .un .un) (op_of (p := .tuple A.as) (q := .int (k : Nat)) rfl rfl (ix_tab (f := fun k => .tuple [.int (A.S k : Nat), .int (A.T k : Nat)]) hk)) hg
      rw [seq_nx hun]
      have e1 := mLc_tab (g := gN 11) (e := E1__law_sum) (vs := [11]) (it := iSeq (mOp fIx (mVar 5) (mVar 7))) (n := A.N (A.T k)) (h := fun i => rowD (A.N (A.S k)) (A.F k i)) (f := fun i => rowD (A.N (A.S k) + N (A.S k)) fun j => if j < A.N (A.S k) then A.F k i j else 0) (ρ := G r .un) (ρ1 := G r .un)
        (seq_tab (n := A.N (A.T k)) (op_of (p := .tuple A.ms) (q := .int (k : Nat)) rfl rfl (ix_tab (f := fun k => matD (A.N (A.T k)) (A.N (A.S k)) (A.F k)) hk)) rfl (by omega)) (by omega) rfl fun i hi =>
          ⟨G r (.val (rowD (A.N (A.S k)) (A.F k i))), .val _, rfl, op_of (p := rowD (A.N (A.S k)) (A.F k i)) rfl (op_of (p := .tuple [.int 0]) (q := .int (N (A.S k) : Nat)) rfl (op_of (p := .tuple B.ds) (q := .int (A.S k : Nat)) (op_of (p := B.d) (q := .int 2) rfl rfl rfl) rfl (by rw [hBd]; exact ix_tab (f := fun v => .int (N v : Nat)) hS)) (rep_T (by omega))) (row_zeros (by omega) (by omega)), rfl, rfl, rfl⟩
      rw [seq_nx (ρ1 := G (.own (.list up) false) .un) (setO_of (i := 10) (ρ1 := G r .un) e1 (by rw [free_eq]; exact g4))]
      have e2 := mLc_tab (g := gN 11) (e := E2__law_sum) (vs := [11]) (it := iSeq (mOp fIx (mOp fIx (mVar 1) (mC (.int 3))) (mVar 7))) (n := N (A.T k)) (h := fun i => rowD (N (A.S k)) (F k i)) (f := fun i => rowD (A.N (A.S k) + N (A.S k)) fun j => if j < A.N (A.S k) then 0 else F k i (j - A.N (A.S k))) (ρ := G (.own (.list up) false) .un) (ρ1 := G (.own (.list up) false) .un)
        (seq_tab (n := N (A.T k)) (op_of (p := .tuple B.ms) (q := .int (k : Nat)) (op_of (p := B.d) (q := .int 3) rfl rfl rfl) rfl (by rw [hBm]; exact ix_tab (f := fun k => matD (N (A.T k)) (N (A.S k)) (F k)) hk)) rfl (by omega)) (by omega) rfl fun i hi =>
          ⟨G (.own (.list up) false) (.val (rowD (N (A.S k)) (F k i))), .val _, rfl, op_of (q := rowD (N (A.S k)) (F k i)) (op_of (p := .tuple [.int 0]) (q := .int (A.N (A.S k) : Nat)) rfl (op_of (p := .tuple A.ds) (q := .int (A.S k : Nat)) rfl rfl (ix_tab (f := fun v => .int (A.N v : Nat)) hS)) (rep_T (by omega))) rfl (zeros_row (by omega) (by omega)), rfl, rfl, rfl⟩
      rw [seq_nx (ρ1 := G (.own (.list (up ++ lo)) false) .un) (ext_of (i := 10) (l := up) (ds := up) (es := lo) (b := false) (b' := false) (ρ1 := G (.own (.list up) false) .un) rfl e2 rfl (by simp only [up, lo, tab_len]; omega))]
      have et : mUn fTuple (mVar 10) (G (.own (.list (up ++ lo)) false) .un) = some (.ok (.val (matD ((A.plus N F).N (A.T k)) ((A.plus N F).N (A.S k)) ((A.plus N F).F k))) (G (.own (.list (up ++ lo)) false) .un)) := by
        refine un_of (p := .list (up ++ lo)) rfl rfl ?_
        show some (RV.val (.tuple (up ++ lo))) = _
        rw [show up ++ lo = _ from rows_blk (A.N (A.T k)) (A.N (A.S k)) (N (A.T k)) (N (A.S k)) (A.F k) (F k)]
        rfl
      have := app_of (i := 6) (m := mUn fTuple (mVar 10)) (ρ := G (.own (.list (up ++ lo)) false) .un) (ρ1 := G (.own (.list (up ++ lo)) false) .un) (l := acc) (ds := acc) (b := false) (b' := false) rfl et rfl (by omega)
      rw [this]
      rfl
  simp only [List.length_map, List.length_range, Nat.zero_add] at e
  have hrun : mFor (iRng1 (mUn fLen (mVar 3))) (gN 7) L3__law_sum (E (.own (.list []) false) .un .un .un .un .un .un) = some (.nx (E (.own (.list (A.plus N F).ms) false) k' s' t' r' .un .un)) := by
    rw [for_of (rng_of A.m (by omega) (un_of (p := .tuple A.as) rfl rfl len_tab)), e]
    rfl
  rw [seq_nx hrun]
  have e2 := mLc_tab (g := gN 12) (e := E4__law_sum) (vs := [12]) (it := iRng1 (mUn fLen (mVar 4))) (h := fun v => .int (v : Nat)) (n := A.q)
    (f := fun v => .int ((A.plus N F).N v : Nat)) (ρ := E (.own (.list (A.plus N F).ms) false) k' s' t' r' .un .un) (ρ1 := E (.own (.list (A.plus N F).ms) false) k' s' t' r' .un .un)
    (rng_tabs A.q (by omega) (un_of (p := .tuple A.ds) rfl rfl len_tab)) (by omega) rfl fun v hv =>
      ⟨E (.own (.list (A.plus N F).ms) false) k' s' t' r' .un (.val (.int (v : Nat))), .val (.int ((A.plus N F).N v : Nat)), rfl, op_of (p := .int (A.N v : Nat)) (q := .int (N v : Nat)) (op_of (p := .tuple A.ds) (q := .int (v : Nat)) rfl rfl (ix_tab (f := fun v => .int (A.N v : Nat)) hv)) (op_of (p := .tuple B.ds) (q := .int (v : Nat)) (op_of (p := B.d) (q := .int 2) rfl rfl rfl) rfl (by rw [hBd]; exact ix_tab (f := fun v => .int (N v : Nat)) hv)) (add_ints _ _), rfl, rfl, rfl⟩
  exact ⟨_, ret_of (tup_of (ds := [.int A.p, .tuple A.as, .tuple (A.plus N F).ds, .tuple (A.plus N F).ms]) (consV_of rfl rfl (consV_of rfl rfl (consV_of (un_of (p := .list (A.plus N F).ds) e2 rfl rfl) rfl (consV_of (un_of (p := .list (A.plus N F).ms) rfl rfl rfl) rfl rfl)))) rfl (by simp)), rfl⟩
theorem lsum_is (A : Md) (N : Nat → Nat) (F : Nat → Nat → Nat → Int) (hA : A.Ok 125) (hB : (A.like N F).Ok 125) : f__law_sum [.val A.d, .val (A.like N F).d] = some (.rt (.val (A.plus N F).d) [.val A.d, .val (A.like N F).d]) := by
  obtain ⟨ρ', e, hl⟩ := lsum_run A N F hA hB
  have := run_rt (n := 13) (ins := [.val A.d, .val (A.like N F).d]) (mb := m__law_sum) e rfl
  rw [hl] at this
  exact this
end K02
set_option maxRecDepth 100000
set_option maxHeartbeats 2000000
namespace K02
open PySem PySem.Spec PyProof.Rows L2 Pi
/-! ### the drawn modules, told by functions -/
def sOf (d : D) : Nat := match d with
  | .tuple (.int s :: _) => s.toNat
  | _ => 0
def tOf (d : D) : Nat := match d with
  | .tuple [_, .int t] => t.toNat
  | _ => 0
def numAt (d : D) (i j : Nat) : Int := intOf ((itemsOf ((itemsOf d).getD i .none)).getD j .none)
def mdOf (p : Int) (as : List D) (ns : List Int) (ms : List D) : Md := ⟨p, as.length, fun k => sOf (as.getD k .none), fun k => tOf (as.getD k .none), ns.length, fun v => (ns.getD v 0).toNat, fun k => numAt (ms.getD k .none)⟩
theorem row_tab {p : Int} {c : Nat} {d : D} (h : RowOk p c d) : d = rowD c (fun j => intOf ((itemsOf d).getD j .none)) ∧ ∀ j, j < c → 0 ≤ intOf ((itemsOf d).getD j .none) ∧ intOf ((itemsOf d).getD j .none) < p := by
  obtain ⟨ks, rfl, hl, hk⟩ := h
  have g : ∀ j, j < c → ∃ x, (intL ks)[j]? = some (.int x) ∧ x ∈ ks := fun j hj => by
    have hj' : j < ks.length := by omega
    exact ⟨ks[j], by simp [intL, List.getElem?_eq_getElem hj'], List.getElem_mem hj'⟩
  constructor
  · refine congrArg PyData.tuple (tab_ext (by simp [intL, hl]) fun j hj => ?_)
    obtain ⟨x, hx, _⟩ := g j hj
    rw [hx]
    show some (PyData.int x) = some (.int (intOf ((intL ks).getD j .none)))
    rw [List.getD, hx]; rfl
  · intro j hj
    obtain ⟨x, hx, hm⟩ := g j hj
    show 0 ≤ intOf ((intL ks).getD j .none) ∧ intOf ((intL ks).getD j .none) < p
    rw [List.getD, hx]
    exact hk x hm
theorem md_of {p : Int} {as : List D} {ns : List Int} {ms : List D} (h : ModOk p as ns ms) : modD p as ns ms = (mdOf p as ns ms).d ∧ (mdOf p as ns ms).Ok 40 := by
  have hk := h.kind
  have arr : ∀ k, k < as.length → ∃ s t : Nat, as[k]? = some (pr s t) ∧ s < ns.length ∧ t < ns.length ∧ sOf (as.getD k .none) = s ∧ tOf (as.getD k .none) = t := fun k hkl => by
    have e := List.getElem?_eq_getElem hkl
    obtain ⟨s, t, ea, h1, h2⟩ := arrow_nat (hk.arrows as[k] (List.getElem_mem hkl))
    refine ⟨s, t, by rw [e, ea], h1, h2, ?_, ?_⟩
    · rw [List.getD, e, ea]; show (Int.toNat (s : Nat)) = s; exact Int.toNat_natCast s
    · rw [List.getD, e, ea]; show (Int.toNat (t : Nat)) = t; exact Int.toNat_natCast t
  have dim : ∀ v, v < ns.length → (((ns.getD v 0).toNat : Nat) : Int) = at0 ns (v : Nat) := fun v hv => by
    have := (at0_nn h.nn hv).1
    unfold at0 at this ⊢
    rw [Int.toNat_natCast, List.getElem?_eq_getElem hv] at this ⊢
    rw [List.getD, List.getElem?_eq_getElem hv]
    simp at this ⊢
    omega
  have mat : ∀ k, k < as.length → ∃ fo : List D, ms[k]? = some (.tuple fo) ∧ fo.length = (ns.getD (tOf (as.getD k .none)) 0).toNat ∧ ∀ d ∈ fo, RowOk p (ns.getD (sOf (as.getD k .none)) 0).toNat d := fun k hkl => by
    obtain ⟨s, t, e, h1, h2, es, et⟩ := arr k hkl
    have hkm : k < ms.length := by rw [h.len]; exact hkl
    obtain ⟨s', t', fo, ep, hs, ht, em, hl, hr⟩ := h.maps k ms[k] _ (List.getElem?_eq_getElem hkm) e
    have e1 : (s : Int) = s' ∧ (t : Int) = t' := by
      unfold pr at ep
      simp only [PyData.tuple.injEq, List.cons.injEq, PyData.int.injEq, and_true] at ep
      exact ep
    have ess : s = s' := by omega
    have ett : t = t' := by omega
    subst ess ett
    refine ⟨fo, by rw [List.getElem?_eq_getElem hkm, em], ?_, ?_⟩
    · rw [et]; have := dim t h2; omega
    · rw [es]
      have := dim s h1
      rw [show (ns.getD s 0).toNat = (at0 ns (s : Nat)).toNat by omega]
      exact hr
  have eas : as = (mdOf p as ns ms).as := tab_ext rfl fun k hkl => by
    obtain ⟨s, t, e, h1, h2, es, et⟩ := arr k hkl
    rw [e]
    show some (pr s t) = some (.tuple [.int (sOf (as.getD k .none) : Nat), .int (tOf (as.getD k .none) : Nat)])
    rw [es, et]; rfl
  have eds : intL ns = (mdOf p as ns ms).ds := tab_ext (by simp [intL]; rfl) fun v hv => by
    have hv : v < ns.length := hv
    have := dim v hv
    unfold intL
    rw [List.getElem?_map, at0_get hv]
    show some (PyData.int (at0 ns (v : Nat))) = some (.int (((ns.getD v 0).toNat : Nat) : Int))
    rw [this]
  have ems : ms = (mdOf p as ns ms).ms := tab_ext h.len fun k hkl => by
    obtain ⟨fo, e, hl, hr⟩ := mat k hkl
    rw [e]
    show some (PyData.tuple fo) = some (matD (ns.getD (tOf (as.getD k .none)) 0).toNat (ns.getD (sOf (as.getD k .none)) 0).toNat (numAt (ms.getD k .none)))
    refine congrArg some (congrArg PyData.tuple (tab_ext hl fun i hi => ?_))
    have hi' : i < fo.length := by omega
    have r := (row_tab (hr fo[i] (List.getElem_mem hi'))).1
    rw [List.getElem?_eq_getElem hi']
    refine congrArg some (r.trans (row_congr fun j hj => ?_))
    unfold numAt
    rw [show ms.getD k .none = .tuple fo by rw [List.getD, e]; rfl]
    rw [show itemsOf (.tuple fo) = fo from rfl, show fo.getD i .none = fo[i] by rw [List.getD, List.getElem?_eq_getElem hi']; rfl]
  refine ⟨?_, hk.prime, hk.few, by have := hk.low; show 1 ≤ ns.length; omega, by have := hk.high; show ns.length ≤ 4; omega, fun k hkl => ?_, fun k hkl => ?_, ?_, fun k i j hkl hi hj => ?_⟩
  · show PyData.tuple [.int p, .tuple as, .tuple (intL ns), .tuple ms] = .tuple [.int p, .tuple (mdOf p as ns ms).as, .tuple (mdOf p as ns ms).ds, .tuple (mdOf p as ns ms).ms]
    rw [← eas, ← eds, ← ems]
  · obtain ⟨s, t, e, h1, h2, es, et⟩ := arr k hkl
    show sOf _ < ns.length
    rw [es]; exact h1
  · obtain ⟨s, t, e, h1, h2, es, et⟩ := arr k hkl
    show tOf _ < ns.length
    rw [et]; exact h2
  · have e : (sumN ns.length fun v => (ns.getD v 0).toNat : Nat) = (ns.sum.toNat : Nat) := by
      have q := sumN_int ns.length fun v => (ns.getD v 0).toNat
      have r : ((List.range ns.length).map fun v => (((ns.getD v 0).toNat : Nat) : Int)) = ns := by
        apply List.ext_getElem
        · simp
        · intro i h1 h2
          have := dim i h2
          rw [at0, Int.toNat_natCast, List.getElem?_eq_getElem h2] at this
          simpa using this
      rw [r] at q
      omega
    have := h.sum
    show sumN ns.length (fun v => (ns.getD v 0).toNat) ≤ 40
    omega
  · obtain ⟨fo, e, hl, hr⟩ := mat k hkl
    have hi : i < (ns.getD (tOf (as.getD k .none)) 0).toNat := hi
    have hj : j < (ns.getD (sOf (as.getD k .none)) 0).toNat := hj
    have hi' : i < fo.length := by omega
    have r := (row_tab (hr fo[i] (List.getElem_mem hi'))).2 j hj
    show 0 ≤ numAt (ms.getD k .none) i j ∧ numAt (ms.getD k .none) i j < p
    unfold numAt
    rw [show ms.getD k .none = .tuple fo by rw [List.getD, e]; rfl]
    rw [show itemsOf (.tuple fo) = fo from rfl, show fo.getD i .none = fo[i] by rw [List.getD, List.getElem?_eq_getElem hi']; rfl]
    exact r
/-! ### modules of other kinds -/
def U1 (A : Md) : Md := { A with p := if 2 < A.p then 2 else 3, F := fun _ _ _ => 0 }
def U2 (A : Md) : Md := { A with m := A.m + 1, S := fun k => if k < A.m then A.S k else 0, T := fun k => if k < A.m then A.T k else 0, F := fun k => if k < A.m then A.F k else fun _ _ => 0 }
def U3 (A : Md) : Md := { A with q := A.q + 1, N := fun v => if v < A.q then A.N v else 0 }
theorem u1_ok {A : Md} {b : Nat} (h : A.Ok b) : (U1 A).Ok b := by
  have hp : ∀ c : Prop, [Decidable c] → primeB (.int (if c then 2 else 3)) = true ∧ (0 : Int) < (if c then 2 else 3) := fun c _ => by split <;> exact ⟨by decide, by decide⟩
  exact ⟨(hp _).1, h.few, h.low, h.high, h.src, h.tgt, h.sum, fun k i j hk hi hj => ⟨Int.le_refl 0, (hp _).2⟩⟩
theorem u2_ok {A : Md} {b : Nat} (h : A.Ok b) (hm : A.m + 1 ≤ 5) : (U2 A).Ok b := by
  have hp := p2 h.prime
  have hl := h.low
  refine ⟨h.prime, hm, h.low, h.high, fun k hk => ?_, fun k hk => ?_, h.sum, fun k i j hk hi hj => ?_⟩
  · show (if k < A.m then A.S k else 0) < A.q
    split
    · exact h.src k (by assumption)
    · omega
  · show (if k < A.m then A.T k else 0) < A.q
    split
    · exact h.tgt k (by assumption)
    · omega
  · have hi : i < A.N (if k < A.m then A.T k else 0) := hi
    have hj : j < A.N (if k < A.m then A.S k else 0) := hj
    show 0 ≤ (if k < A.m then A.F k else fun _ _ => 0) i j ∧ (if k < A.m then A.F k else fun _ _ => 0) i j < A.p
    by_cases c : k < A.m
    · rw [if_pos c] at hi hj ⊢; exact h.num k i j c hi hj
    · rw [if_neg c]; exact ⟨Int.le_refl 0, by show (0 : Int) < A.p; omega⟩
theorem sumN_congr {q : Nat} {N N' : Nat → Nat} (h : ∀ v, v < q → N v = N' v) : sumN q N = sumN q N' := by
  induction q with
  | zero => rfl
  | succ q ih => rw [sumN_succ, sumN_succ, ih fun v hv => h v (by omega), h q (by omega)]
theorem u3_ok {A : Md} {b : Nat} (h : A.Ok b) (hq : A.q + 1 ≤ 4) : (U3 A).Ok b := by
  refine ⟨h.prime, h.few, by show 1 ≤ A.q + 1; omega, hq, fun k hk => Nat.lt_succ_of_lt (h.src k hk), fun k hk => Nat.lt_succ_of_lt (h.tgt k hk), ?_, fun k i j hk hi hj => ?_⟩
  · show sumN (A.q + 1) (fun v => if v < A.q then A.N v else 0) ≤ b
    rw [sumN_succ, if_neg (by omega), sumN_congr (N' := A.N) fun v hv => if_pos hv]
    exact h.sum
  · have hi : i < (if A.T k < A.q then A.N (A.T k) else 0) := hi
    have hj : j < (if A.S k < A.q then A.N (A.S k) else 0) := hj
    rw [if_pos (h.tgt k hk)] at hi
    rw [if_pos (h.src k hk)] at hj
    exact h.num k i j hk hi hj
theorem len_eqv {n m : Nat} {f g : Nat → D} (h : n ≠ m) : PyData.eqvAll (tab n f) (tab m g) = false := by
  rw [eqvAll_tab, decide_eq_false h]; rfl
theorem u1_kind {A : Md} (h : 2 ≤ A.p) : kindB A (U1 A) = false ∧ kindB (U1 A) A = false := by
  have e1 : decide (A.p = if 2 < A.p then 2 else 3) = false := decide_eq_false (by split <;> omega)
  have e2 : decide ((if 2 < A.p then 2 else 3) = A.p) = false := decide_eq_false (by split <;> omega)
  constructor
  · show ((decide (A.p = if 2 < A.p then 2 else 3) && _) && _) = false
    rw [e1]; rfl
  · show ((decide ((if 2 < A.p then 2 else 3) = A.p) && _) && _) = false
    rw [e2]; rfl
theorem u2_kind (A : Md) : kindB A (U2 A) = false ∧ kindB (U2 A) A = false := by
  constructor
  · show ((_ && PyData.eqvAll (tab A.m _) (tab (A.m + 1) _)) && _) = false
    rw [len_eqv (by omega)]; simp
  · show ((_ && PyData.eqvAll (tab (A.m + 1) _) (tab A.m _)) && _) = false
    rw [len_eqv (by omega)]; simp
theorem u3_kind (A : Md) : kindB A (U3 A) = false ∧ kindB (U3 A) A = false := by
  have e1 : decide (A.q = A.q + 1) = false := decide_eq_false (by omega)
  have e2 : decide (A.q + 1 = A.q) = false := decide_eq_false (by omega)
  constructor
  · show (_ && decide (A.q = A.q + 1)) = false
    rw [e1]; simp
  · show (_ && decide (A.q + 1 = A.q)) = false
    rw [e2]; simp
/-- a module of another kind -/
def UnOk (A : Md) (d : D) : Prop := ∃ U : Md, d = U.d ∧ U.Ok 125 ∧ kindB A U = false ∧ kindB U A = false
def qUn (d : D) : Bool := decide ((itemsOf ((itemsOf d).getD 1 .none)).length < 6) && decide ((itemsOf ((itemsOf d).getD 2 .none)).length < 5)
theorem unlike_run (A : Md) (h : A.Ok 125) : ∃ (rows : List D) (ρ' : Pi.Env), m__law_unlike [.val A.d, .un, .un, .un, .un, .un, .un, .un, .un] = some (.rt (.own (.list rows)) ρ') ∧ left [.val A.d] ρ' = [.val A.d] ∧ rows.length ≤ 3 ∧ ∀ d ∈ rows, UnOk A d := by
  have f5 := h.few
  have q4 := h.high
  have hp := p2 h.prime
  have n0 := h.le (v := 0) h.low
  let E := fun a b c d : Pi.Slot => [Pi.Slot.val A.d, .val (.int A.p), .val (.tuple A.as), .val (.tuple A.ds), .val (.tuple A.ms), a, b, c, d]
  have ifp : mIfE (mTru (mOp fGt (mVar 1) (mC (.int 2)))) (mC (.int 2)) (mC (.int 3)) (E .un .un .un .un) = some (.ok (.val (.int (U1 A).p)) (E .un .un .un .un)) := by
    have t : mTru (mOp fGt (mVar 1) (mC (.int 2))) (E .un .un .un .un) = some (.ok (decide (2 < A.p)) (E .un .un .un .un)) := tru_of_ok (op_of rfl rfl (gt_ints _ _)) rfl rfl
    simp only [mIfE, t, Res.bind]
    by_cases c : 2 < A.p
    · rw [decide_eq_true c, if_pos rfl]
      show some (Res.ok (RV.val (.int 2)) _) = some (.ok (.val (.int (if 2 < A.p then 2 else 3))) _)
      rw [if_pos c]
    · rw [decide_eq_false c, if_neg Bool.false_ne_true]
      show some (Res.ok (RV.val (.int 3)) _) = some (.ok (.val (.int (if 2 < A.p then 2 else 3))) _)
      rw [if_neg c]
  have z1 : ∀ (k i : Nat) (m : D), k < A.m → i < A.N (A.T k) → mLc (iSeq (mVar 6)) (gN 8) mYes (mC (.int 0)) [8] (E .un (.val (rowD (A.N (A.S k)) (A.F k i))) (.val m) .un) = some (.ok (.own (.list (tab (A.N (A.S k)) fun _ => .int 0))) (E .un (.val (rowD (A.N (A.S k)) (A.F k i))) (.val m) .un)) := fun k i m hk hi => by
    have := h.le (h.src k hk)
    exact mLc_tab (n := A.N (A.S k)) (f := fun _ => .int 0) (seq_tab (n := A.N (A.S k)) rfl rfl (by omega)) (by omega) rfl fun j hj => ⟨E .un (.val (rowD (A.N (A.S k)) (A.F k i))) (.val m) (.val (.int (A.F k i j))), .val (.int 0), rfl, rfl, rfl, rfl, rfl⟩
  have z2 : ∀ k, k < A.m → mLc (iSeq (mVar 7)) (gN 6) mYes E1__law_unlike [6] (E .un .un (.val (matD (A.N (A.T k)) (A.N (A.S k)) (A.F k))) .un) = some (.ok (.own (.list (tab (A.N (A.T k)) fun _ => rowD (A.N (A.S k)) fun _ => 0))) (E .un .un (.val (matD (A.N (A.T k)) (A.N (A.S k)) (A.F k))) .un)) := fun k hk => by
    have := h.le (h.tgt k hk)
    exact mLc_tab (n := A.N (A.T k)) (f := fun _ => rowD (A.N (A.S k)) fun _ => 0) (seq_tab (n := A.N (A.T k)) rfl rfl (by omega)) (by omega) rfl fun i hi => ⟨E .un (.val (rowD (A.N (A.S k)) (A.F k i))) (.val (matD (A.N (A.T k)) (A.N (A.S k)) (A.F k))) .un, .val (rowD (A.N (A.S k)) fun _ => 0), rfl, un_of (p := .list _) (z1 k i _ hk hi) rfl rfl, rfl, rfl, rfl⟩
  have z3 := mLc_tab (g := gN 7) (e := E2__law_unlike) (vs := [7]) (it := iSeq (mVar 4)) (n := A.m) (h := fun k => matD (A.N (A.T k)) (A.N (A.S k)) (A.F k)) (f := fun k => matD (A.N (A.T k)) (A.N (A.S k)) fun _ _ => 0) (ρ := E .un .un .un .un) (ρ1 := E .un .un .un .un)
    (seq_tab (n := A.m) rfl rfl (by omega)) (by omega) rfl fun k hk => ⟨E .un .un (.val (matD (A.N (A.T k)) (A.N (A.S k)) (A.F k))) .un, .val (matD (A.N (A.T k)) (A.N (A.S k)) fun _ _ => 0), rfl, un_of (p := .list _) (z2 k hk) rfl rfl, rfl, rfl, rfl⟩
  unfold m__law_unlike
  rw [seq_nx (ρ1 := E .un .un .un .un) rfl]
  rw [seq_nx (ρ1 := E (.own (.list [(U1 A).d]) false) .un .un .un) (setO_of (i := 5) (ρ1 := E .un .un .un .un) (lst_of (ds := [(U1 A).d]) (consV_of (tup_of (ds := [.int (U1 A).p, .tuple A.as, .tuple A.ds, .tuple (U1 A).ms]) (consV_of ifp rfl (consV_of rfl rfl (consV_of rfl rfl (consV_of (un_of (p := .list (U1 A).ms) z3 rfl rfl) rfl rfl)))) rfl (by simp)) rfl rfl) rfl (by simp)) rfl)]
  have e2d : (U2 A).d = .tuple [.int A.p, .tuple (A.as ++ [.tuple [.int 0, .int 0]]), .tuple A.ds, .tuple (A.ms ++ [.tuple (tab (A.N 0) fun _ => .tuple (tab (A.N 0) fun _ => .int 0))])] := by
    have e1 : (U2 A).as = A.as ++ [.tuple [.int 0, .int 0]] := by
      show tab (A.m + 1) _ = tab A.m _ ++ tab 1 (fun _ => _)
      rw [tab_app]
      exact tab_congr fun k hk => by by_cases c : k < A.m <;> simp [U2, c]
    have e2 : (U2 A).ms = A.ms ++ [.tuple (tab (A.N 0) fun _ => .tuple (tab (A.N 0) fun _ => .int 0))] := by
      show tab (A.m + 1) _ = tab A.m _ ++ tab 1 (fun _ => _)
      rw [tab_app]
      exact tab_congr fun k hk => by by_cases c : k < A.m <;> simp [U2, c, matD, rowD]
    show PyData.tuple [.int A.p, .tuple (U2 A).as, .tuple A.ds, .tuple (U2 A).ms] = _
    rw [e1, e2]
  have e3d : (U3 A).d = .tuple [.int A.p, .tuple A.as, .tuple (A.ds ++ [.int 0]), .tuple A.ms] := by
    have e1 : (U3 A).ds = A.ds ++ [.int 0] := by
      show tab (A.q + 1) _ = tab A.q _ ++ tab 1 (fun _ => _)
      rw [tab_app]
      exact tab_congr fun k hk => by by_cases c : k < A.q <;> simp [U3, c]
    have e2 : (U3 A).ms = A.ms := tab_congr fun k hk => by
      have h1 := h.src k hk
      have h2 := h.tgt k hk
      simp [U3, h1, h2]
    show PyData.tuple [.int A.p, .tuple A.as, .tuple (U3 A).ds, .tuple (U3 A).ms] = _
    rw [e1, e2]
  have app : ∀ (l : List D) (d : D) (m : M), l.length < 10 → m (E (.own (.list l) false) .un .un .un) = some (.ok (.val d) (E (.own (.list l) false) .un .un .un)) → mExpr (mApp 5 m) (E (.own (.list l) false) .un .un .un) = some (.nx (E (.own (.list (l ++ [d])) false) .un .un .un)) := fun l d m hl hm =>
    app_of (i := 5) (m := m) (ρ := E (.own (.list l) false) .un .un .un) (ρ1 := E (.own (.list l) false) .un .un .un) (l := l) (ds := l) (b := false) (b' := false) rfl hm rfl (by omega)
  have d0 : ∀ s : Pi.Slot, mOp fIx (mVar 3) (mC (.int 0)) (E s .un .un .un) = some (.ok (.val (.int (A.N 0 : Nat))) (E s .un .un .un)) := fun s => op_of (p := .tuple A.ds) (q := .int ((0 : Nat) : Int)) rfl rfl (ix_tab (f := fun v => .int (A.N v : Nat)) h.low)
  have la : A.as.length = A.m := tab_len _ _
  have lm : A.ms.length = A.m := tab_len _ _
  have ld : A.ds.length = A.q := tab_len _ _
  rw [seq_nx (ρ1 := E (.own (.list [(U1 A).d, (U2 A).d]) false) .un .un .un) (app [(U1 A).d] (U2 A).d _ (by simp) (by
    rw [e2d]
    refine tup_of (consV_of rfl rfl (consV_of (op_of (p := .tuple A.as) (q := .tuple [.tuple [.int 0, .int 0]]) rfl rfl (cat_T (by rw [la]; simp; omega))) rfl (consV_of rfl rfl (consV_of (op_of (p := .tuple A.ms) rfl ?_ (cat_T (by rw [lm]; simp; omega))) rfl rfl)))) rfl (by simp)
    refine tup_of (consV_of (op_of (p := .tuple [.tuple (tab (A.N 0) fun _ => .int 0)]) (q := .int (A.N 0 : Nat)) (tup_of (consV_of (op_of (p := .tuple [.int 0]) (q := .int (A.N 0 : Nat)) rfl (d0 _) (rep_T (by omega))) rfl rfl) rfl (by simp)) (d0 _) (rep_T (by omega))) rfl rfl) rfl (by simp)))]
  rw [seq_nx (ρ1 := E (.own (.list [(U1 A).d, (U2 A).d, (U3 A).d]) false) .un .un .un) (app [(U1 A).d, (U2 A).d] (U3 A).d _ (by simp) (by
    rw [e3d]
    exact tup_of (consV_of rfl rfl (consV_of rfl rfl (consV_of (op_of (p := .tuple A.ds) (q := .tuple [.int 0]) rfl rfl (cat_T (by rw [ld]; simp; omega))) rfl (consV_of rfl rfl rfl)))) rfl (by simp)))]
  have lt_nat : ∀ a b : Nat, decide ((a : Int) < (b : Int)) = decide (a < b) := fun a b => by
    by_cases c : a < b
    · rw [decide_eq_true c, decide_eq_true (by omega)]
    · rw [decide_eq_false c, decide_eq_false (by omega)]
  have tst : ∀ (a c x y : D) (ls ks : List D) (s : Pi.Slot), x = .tuple ls → y = .tuple ks → mtAnd (mTru (mOp fLt (mUn fLen (mOp fIx (mVar 6) (mC (.int 1)))) (mC (.int 6)))) (mTru (mOp fLt (mUn fLen (mOp fIx (mVar 6) (mC (.int 2)))) (mC (.int 5)))) (E s (.val (.tuple [a, x, y, c])) .un .un) = some (.ok (qUn (.tuple [a, x, y, c])) (E s (.val (.tuple [a, x, y, c])) .un .un)) := fun a c x y ls ks s hx hy => by
    subst hx hy
    have t1 : mTru (mOp fLt (mUn fLen (mOp fIx (mVar 6) (mC (.int 1)))) (mC (.int 6))) (E s (.val (.tuple [a, .tuple ls, .tuple ks, c])) .un .un) = some (.ok (decide (ls.length < 6)) (E s (.val (.tuple [a, .tuple ls, .tuple ks, c])) .un .un)) := by
      rw [← lt_nat]
      exact tru_of_ok (op_of (un_of (p := .tuple ls) (op_of (p := .tuple [a, .tuple ls, .tuple ks, c]) (q := .int 1) rfl rfl rfl) rfl rfl) rfl (lt_ints _ _)) rfl rfl
    have t2 : mTru (mOp fLt (mUn fLen (mOp fIx (mVar 6) (mC (.int 2)))) (mC (.int 5))) (E s (.val (.tuple [a, .tuple ls, .tuple ks, c])) .un .un) = some (.ok (decide (ks.length < 5)) (E s (.val (.tuple [a, .tuple ls, .tuple ks, c])) .un .un)) := by
      rw [← lt_nat]
      exact tru_of_ok (op_of (un_of (p := .tuple ks) (op_of (p := .tuple [a, .tuple ls, .tuple ks, c]) (q := .int 2) rfl rfl rfl) rfl rfl) rfl (lt_ints _ _)) rfl rfl
    show _ = some (Res.ok (decide (ls.length < 6) && decide (ks.length < 5)) _)
    cases hb : decide (ls.length < 6) with
    | true => rw [hb] at t1; rw [tand_t t1, t2, Bool.true_and]
    | false => rw [hb] at t1; rw [tand_f t1, Bool.false_and]
  have rows3 : ∀ d ∈ [(U1 A).d, (U2 A).d, (U3 A).d], ∃ (U : Md), d = U.d ∧ (U = U1 A ∨ U = U2 A ∨ U = U3 A) := fun d hd => by
    simp only [List.mem_cons, List.not_mem_nil, or_false] at hd
    rcases hd with rfl | rfl | rfl
    · exact ⟨_, rfl, .inl rfl⟩
    · exact ⟨_, rfl, .inr (.inl rfl)⟩
    · exact ⟨_, rfl, .inr (.inr rfl)⟩
  have fin := mLc_pure (i := 6) (it := iSeq (mVar 5)) (c := mtAnd (mTru (mOp fLt (mUn fLen (mOp fIx (mVar 6) (mC (.int 1)))) (mC (.int 6)))) (mTru (mOp fLt (mUn fLen (mOp fIx (mVar 6) (mC (.int 2)))) (mC (.int 5))))) (e := mVar 6) (q := qUn) (f := id) (ρ := E (.own (.list [(U1 A).d, (U2 A).d, (U3 A).d]) false) .un .un .un) (ρ1 := E (.val (.list [(U1 A).d, (U2 A).d, (U3 A).d])) .un .un .un) (ds := [(U1 A).d, (U2 A).d, (U3 A).d])
    rfl (by show 3 ≤ 1000000; omega) rfl (fun d hd => by obtain ⟨U, rfl, _⟩ := rows3 d hd; exact tst _ _ _ _ U.as U.ds _ rfl rfl) (fun d hd _ => ⟨.val d, rfl, rfl⟩)
  refine ⟨_, _, ret_of fin, rfl, by rw [List.length_map]; exact List.length_filter_le _ _, fun d hd => ?_⟩
  rw [List.map_id] at hd
  obtain ⟨hm, hq⟩ := List.mem_filter.mp hd
  obtain ⟨U, rfl, hU⟩ := rows3 d hm
  have hq : (decide (U.as.length < 6) && decide (U.ds.length < 5)) = true := hq
  simp only [Bool.and_eq_true, decide_eq_true_eq] at hq
  rcases hU with rfl | rfl | rfl
  · exact ⟨_, rfl, u1_ok h, u1_kind hp.1⟩
  · have : (U2 A).as.length = A.m + 1 := tab_len _ _
    exact ⟨_, rfl, u2_ok h (by omega), u2_kind A⟩
  · have : (U3 A).ds.length = A.q + 1 := tab_len _ _
    exact ⟨_, rfl, u3_ok h (by omega), u3_kind A⟩
theorem unlike_is (A : Md) (h : A.Ok 125) : ∃ rows : List D, f__law_unlike [.val A.d] = some (.rt (.own (.list rows)) [.val A.d]) ∧ rows.length ≤ 3 ∧ ∀ d ∈ rows, UnOk A d := by
  obtain ⟨rows, ρ', e, hl, h1, h2⟩ := unlike_run A h
  have := run_rt (n := 9) (ins := [.val A.d]) (mb := m__law_unlike) e rfl
  rw [hl] at this
  exact ⟨rows, this, h1, h2⟩
end K02
set_option maxRecDepth 100000
set_option maxHeartbeats 2000000
namespace K02
open PySem PySem.Spec PyProof.Rows L2 Pi
/-! ### the law -/
theorem like_self (A : Md) : A.like A.N A.F = A := rfl
theorem turn_plus (A : Md) (N : Nat → Nat) (F : Nat → Nat → Nat → Int) : (A.plus N F).turn = A.turn.plus N fun k i j => F k j i := by
  have e : (fun (k i j : Nat) => blk (A.N (A.T k)) (A.N (A.S k)) (A.F k) (F k) j i) = fun k => blk (A.N (A.S k)) (A.N (A.T k)) (fun i j => A.F k j i) fun i j => F k j i := by
    funext k i j
    unfold blk
    by_cases h1 : i < A.N (A.S k)
    · by_cases h2 : j < A.N (A.T k)
      · simp [h1, h2]
      · simp [h1, h2]
    · by_cases h2 : j < A.N (A.T k)
      · simp [h1, h2]
      · simp [h1, h2]
  show (⟨A.p, A.m, A.T, A.S, A.q, fun v => A.N v + N v, fun k i j => blk (A.N (A.T k)) (A.N (A.S k)) (A.F k) (F k) j i⟩ : Md) = ⟨A.p, A.m, A.T, A.S, A.q, fun v => A.N v + N v, fun k => blk (A.N (A.S k)) (A.N (A.T k)) (fun i j => A.F k j i) fun i j => F k j i⟩
  rw [e]
theorem forL_step {g : MG} {body : MS} {d : D} {r : List D} {ρ ρ1 ρ2 : Pi.Env} (h1 : g d ρ = some ρ1) (h2 : body ρ1 = some (.nx ρ2)) : forL g body (d :: r) ρ = forL g body r ρ2 := by simp only [forL, h1, h2]
/-- slots: script, draws, kind, most, module, other, kept, one, two, unlike, size_v, plain -/
def WE (sc : D) (xs : List Int) (n : Nat) (k mo a b kp o t u sz pl : Pi.Slot) : Pi.Env := [.val sc, .own (St xs n) false, k, mo, a, b, kp, o, t, u, sz, pl]
/-- two sums are the same -/
theorem sums_test {ρ : Pi.Env} {i j : Nat} (A : Md) (N : Nat → Nat) (F : Nat → Nat → Nat → Int) (hA : A.Ok 40) (hB : (A.like N F).Ok 40) (hi : ρ[i]? = some (.val A.d)) (hj : ρ[j]? = some (.val (A.like N F).d)) :
    mIf (mtNot (mTru (mCall f__law_equal (mConsV (mCall f_add (mConsV (mVar i) (mConsV (mVar j) mNilA))) (mConsV (mCall f__law_sum (mConsV (mVar i) (mConsV (mVar j) mNilA))) mNilA))))) (mRet (mC (.bool false))) mSkip ρ = some (.nx ρ) := by
  have vi : mVar i ρ = some (.ok (.val A.d) ρ) := by simp only [mVar, hi]
  have vj : mVar j ρ = some (.ok (.val (A.like N F).d) ρ) := by simp only [mVar, hj]
  have s1 := hA.sum
  have s2 : sumN A.q N ≤ 40 := hB.sum
  have c1 := call_of (a := mConsV (mVar i) (mConsV (mVar j) mNilA)) (ρ := ρ) (ρ1 := ρ) (ds := [A.d, (A.like N F).d]) (consV_of vi rfl (consV_of vj rfl rfl)) (add_is A N F (hA.up (by decide)) (hB.up (by decide)) (by omega)) rfl (fun _ z => nomatch z)
  have c2 := call_of (a := mConsV (mVar i) (mConsV (mVar j) mNilA)) (ρ := ρ) (ρ1 := ρ) (ds := [A.d, (A.like N F).d]) (consV_of vi rfl (consV_of vj rfl rfl)) (lsum_is A N F (hA.up (by decide)) (hB.up (by decide))) rfl (fun _ z => nomatch z)
  have c3 := call_of (f := f__law_equal) (a := mConsV (mCall f_add (mConsV (mVar i) (mConsV (mVar j) mNilA))) (mConsV (mCall f__law_sum (mConsV (mVar i) (mConsV (mVar j) mNilA))) mNilA)) (ρ := ρ) (ρ1 := ρ) (ds := [(A.plus N F).d, (A.plus N F).d]) (consV_of c1 rfl (consV_of c2 rfl rfl)) (equal_is (nst_md (plus_ok hA hB) (by decide))) rfl (fun _ z => nomatch z)
  rw [if_f (tnot_of (v := true) (tru_of_ok c3 rfl rfl))]
  rfl
theorem str_ne (w : Str) : fNe (.str w) (.str w) = some (.val (.bool false)) := by simp [fNe, fOr, fEqS]
theorem word_test {ρ : Pi.Env} {m k : M} {a b : D} {w : Str} (hm : m ρ = some (.ok (.val a) ρ)) (hk : k ρ = some (.ok (.val b) ρ)) (h : f__law_word [.val a, .val b] = some (.rt (.val (.str w)) [.val a, .val b])) :
    mTru (mOp fNe (mCall f__law_word (mConsV m (mConsV k mNilA))) (mC (.str w))) ρ = some (.ok false ρ) := by
  have c := call_of (f := f__law_word) (a := mConsV m (mConsV k mNilA)) (ρ := ρ) (ρ1 := ρ) (ds := [a, b]) (consV_of hm rfl (consV_of hk rfl rfl)) h rfl (fun _ z => nomatch z)
  exact tru_of_ok (op_of c rfl (str_ne w)) rfl rfl
theorem three_no (A : Md) : modB (.tuple [.int A.p, .tuple A.as, .tuple A.ds]) = false ∧ Sz 3 (.tuple [.int A.p, .tuple A.as, .tuple A.ds]) → modB (.tuple [.int A.p, .tuple A.as, .tuple A.ds]) = false := fun h => h.1
theorem sz3_three {A : Md} (h : A.Ok 125) : Sz 3 (.tuple [.int A.p, .tuple A.as, .tuple A.ds]) := by
  obtain ⟨_, h2⟩ := mod_Sz h
  exact ⟨by show 3 ≤ 1000000; decide, fun x hx => h2 x (by
    have hx : x ∈ [PyData.int A.p, .tuple A.as, .tuple A.ds] := hx
    show x ∈ [PyData.int A.p, .tuple A.as, .tuple A.ds, .tuple A.ms]
    simp only [List.mem_cons, List.not_mem_nil, or_false] at hx ⊢
    rcases hx with h | h | h <;> simp [h])⟩
theorem unlike_test {sc : D} {xs : List Int} {n : Nat} {k mo b kp o t sz pl : Pi.Slot} {A : Md} {d : D} (hA : A.Ok 125) (hd : UnOk A d) : L2_law (WE sc xs n k mo (.val A.d) b kp o t (.val d) sz pl) = some (.nx (WE sc xs n k mo (.val A.d) b kp o t (.val d) sz pl)) := by
  obtain ⟨U, rfl, hU, k1, k2⟩ := hd
  unfold L2_law
  generalize hρ : WE sc xs n k mo (.val A.d) b kp o t (.val U.d) sz pl = ρ
  have v4 : mVar 4 ρ = some (.ok (.val A.d) ρ) := by rw [← hρ]; rfl
  have v9 : mVar 9 ρ = some (.ok (.val U.d) ρ) := by rw [← hρ]; rfl
  have w1 := word_test v4 v9 (word_ex (add_ex (pair_kind hA hU k1)) "argument" (.inr (.inl ⟨rfl, rfl⟩)))
  have w2 := word_test v9 v4 (word_ex (add_ex (pair_kind hU hA k2)) "argument" (.inr (.inl ⟨rfl, rfl⟩)))
  have e3 : mSl (mVar 4) mON (mOS (mC (.int 3))) ρ = some (.ok (.val (.tuple [.int A.p, .tuple A.as, .tuple A.ds])) ρ) :=
    sl_of' (d := A.d) v4 rfl (show mOS (mC (.int 3)) ρ = some (.ok (some 3) ρ) from rfl) rfl rfl
  have w3 := word_test v9 e3 (word_ex (add_ex (pair_second hU (sz3_three hA) (modB_len (by simp)))) "module" (.inl ⟨rfl, rfl⟩))
  have w4 := word_test (k := mVar 9) (show mC .none ρ = some (.ok (.val .none) ρ) from rfl) v9 (word_ex (add_ex (pair_first (a := .none) ⟨Nat.zero_le _, fun y hy => nomatch hy⟩ rfl)) "module" (.inl ⟨rfl, rfl⟩))
  rw [seq_nx (ρ1 := ρ) (by rw [if_f (by rw [tor_f w1, w2])]; rfl)]
  rw [if_f (by rw [tor_f w3, w4])]
  rfl
/-- without arrows, over two spaces -/
def flat (p : Int) (a b : Nat) : Md := ⟨p, 0, fun _ => 0, fun _ => 0, 2, fun v => if v = 0 then a else b, fun _ _ _ => 0⟩
theorem flat_d (p : Int) (a b : Nat) : (flat p a b).d = .tuple [.int p, .tuple [], .tuple [.int (a : Nat), .int (b : Nat)], .tuple []] := rfl
theorem flat_sum (p : Int) (a b : Nat) : sumN (flat p a b).q (flat p a b).N = a + b := by
  show sumN 2 (fun v => if v = 0 then a else b) = a + b
  rw [sumN_succ, sumN_succ]
  simp [sumN]
theorem flat_ok {p : Int} {a b : Nat} (hp : primeB (.int p) = true) (h : a + b ≤ 125) : (flat p a b).Ok 125 :=
  ⟨hp, Nat.zero_le _, by show 1 ≤ 2; decide, by show 2 ≤ 4; decide, fun k hk => absurd hk (Nat.not_lt_zero _), fun k hk => absurd hk (Nat.not_lt_zero _), by rw [flat_sum]; exact h, fun k i j hk => absurd hk (Nat.not_lt_zero _)⟩
theorem law_ok : LawOk 63 f_law := by
  intro ls hls
  obtain ⟨xs, o, hx, hxl, ho, en⟩ := numbers_is ls hls
  obtain ⟨n1, p, as, sp, hk, ek⟩ := kind_is xs 0
  obtain ⟨q, hq⟩ : ∃ q : Nat, sp = (q : Int) := ⟨sp.toNat, by have := hk.low; omega⟩
  subst hq
  have hq4 : q ≤ 4 := by have := hk.high; omega
  generalize hsc : PyData.list (ls.map PyData.int) = sc at *
  suffices h : ∃ ρ', m_law [.val sc, .un, .un, .un, .un, .un, .un, .un, .un, .un, .un, .un] = some (.rt (.val (.bool true)) ρ') by
    obtain ⟨ρ', h⟩ := h
    exact ⟨_, run_rt (n := 12) (ins := [.val sc]) (mb := m_law) h rfl⟩
  unfold m_law
  have c0 := call_of (a := mConsV (mVar 0) mNilA) (ρ := [.val sc, .un, .un, .un, .un, .un, .un, .un, .un, .un, .un, .un]) (ρ1 := [.val sc, .un, .un, .un, .un, .un, .un, .un, .un, .un, .un, .un]) (ds := [sc]) (consV_of rfl rfl rfl) en ho (fun _ z => nomatch z)
  rw [seq_nx (ρ1 := WE sc xs 0 .un .un .un .un .un .un .un .un .un .un) (setO_of (i := 1) (ρ1 := [.val sc, .un, .un, .un, .un, .un, .un, .un, .un, .un, .un, .un]) (lst_of (consV_of c0 rfl (consV_of rfl rfl rfl)) rfl (by simp)) rfl)]
  generalize hkd : PyData.list [.int p, .tuple as, .int (q : Nat)] = kd at *
  have c1 := call_lent (i := 1) (a := mConsR 1 mNilA) (ρ := WE sc xs 0 .un .un .un .un .un .un .un .un .un .un) (ρ1 := WE sc xs 0 .un .un .un .un .un .un .un .un .un .un) (ds := []) (b := false) (consR_of rfl rfl) rfl ek rfl (fun _ z => nomatch z)
  rw [seq_nx (ρ1 := WE sc xs n1 (.own kd false) .un .un .un .un .un .un .un .un .un) (setO_of (i := 2) (ρ1 := WE sc xs n1 .un .un .un .un .un .un .un .un .un .un) c1 rfl)]
  obtain ⟨mo, hmo, emo⟩ := pick_draw (m := mLst (mConsV (mC (.int 9)) (mConsV (mC (.int 9)) (mConsV (mC (.int 9)) (mConsV (mC (.int 41)) mNilA))))) (ρ := WE sc xs n1 (.own kd false) .un .un .un .un .un .un .un .un .un) (xs := xs) (n := n1) (i := 1) (b := false) (k := 4) (ds := [.int 9, .int 9, .int 9, .int 41]) rfl rfl (by decide) rfl
  obtain ⟨mt, rfl, hmt⟩ : ∃ mt : Int, mo = .int mt ∧ 0 < mt ∧ mt ≤ 41 := by
    simp only [List.mem_cons, List.not_mem_nil, or_false] at hmo
    rcases hmo with rfl | rfl | rfl | rfl <;> exact ⟨_, rfl, by decide, by decide⟩
  rw [seq_nx (ρ1 := WE sc xs (n1 + 1) (.own kd false) (.val (.int mt)) .un .un .un .un .un .un .un .un) (set_of (i := 3) (ρ1 := WE sc xs (n1 + 1) (.own kd false) .un .un .un .un .un .un .un .un .un) emo rfl)]
  -- a module of the kind
  have dr : ∀ (n : Nat) (ks a b : Pi.Slot), (ks = .own kd false ∨ ks = .val kd) → ∃ (n' : Nat) (ns : List Int) (ms : List D), ns.length = q ∧ ModOk p as ns ms ∧
      mCall f__law_module (mConsR 1 (mConsV (mVar 2) (mConsV (mCall f__law_dims (mConsR 1 (mConsV (mOp fIx (mVar 2) (mC (.int 2))) (mConsV (mOp fMod (mCall f__law_draw (mConsR 1 mNilA)) (mVar 3)) mNilA)))) mNilA))) (WE sc xs n ks (.val (.int mt)) a b .un .un .un .un .un .un) = some (.ok (.val (modD p as ns ms)) (WE sc xs n' (.val kd) (.val (.int mt)) a b .un .un .un .un .un .un)) := fun n ks a b hks => by
    obtain ⟨mo, hmo⟩ : ∃ mo : Nat, drw xs n % mt = (mo : Int) := ⟨(drw xs n % mt).toNat, by have := mod_rng (drw xs n) mt hmt.1; omega⟩
    have hmo8 : mo ≤ 40 := by have := mod_rng (drw xs n) mt hmt.1; omega
    obtain ⟨n2, ns, ed, hnl, hnn, hns⟩ := ldims_is xs (n + 1) q mo hq4 (by omega)
    subst hnl
    obtain ⟨n3, ms, em, hm⟩ := lmodule_is xs n2 p as ns hk hnn (by omega)
    rw [hkd] at em
    refine ⟨n3, ns, ms, rfl, hm, ?_⟩
    have e2 : mOp fMod (mCall f__law_draw (mConsR 1 mNilA)) (mVar 3) (WE sc xs n (.val kd) (.val (.int mt)) a b .un .un .un .un .un .un) = some (.ok (.val (.int (mo : Nat))) (WE sc xs (n + 1) (.val kd) (.val (.int mt)) a b .un .un .un .un .un .un)) := by
      rw [← hmo]
      exact op_of (draw_at (xs := xs) (n := n) (b := false) rfl) rfl (mod_ints hmt.1)
    have ek2 : mOp fIx (mVar 2) (mC (.int 2)) (WE sc xs n (.val kd) (.val (.int mt)) a b .un .un .un .un .un .un) = some (.ok (.val (.int (ns.length : Nat))) (WE sc xs n (.val kd) (.val (.int mt)) a b .un .un .un .un .un .un)) := op_of rfl rfl (by rw [← hkd]; rfl)
    have c2 := call_lent (i := 1) (a := mConsR 1 (mConsV (mOp fIx (mVar 2) (mC (.int 2))) (mConsV (mOp fMod (mCall f__law_draw (mConsR 1 mNilA)) (mVar 3)) mNilA))) (ρ := WE sc xs n (.val kd) (.val (.int mt)) a b .un .un .un .un .un .un) (ρ1 := WE sc xs (n + 1) (.val kd) (.val (.int mt)) a b .un .un .un .un .un .un) (ds := [.int (ns.length : Nat), .int (mo : Nat)]) (b := false)
      (consR_of rfl (consV_of ek2 rfl (consV_of e2 rfl rfl))) rfl ed rfl (fun _ z => nomatch z)
    exact call_lent (i := 1) (f := f__law_module) (a := mConsR 1 (mConsV (mVar 2) (mConsV (mCall f__law_dims (mConsR 1 (mConsV (mOp fIx (mVar 2) (mC (.int 2))) (mConsV (mOp fMod (mCall f__law_draw (mConsR 1 mNilA)) (mVar 3)) mNilA)))) mNilA)))
      (ρ := WE sc xs n ks (.val (.int mt)) a b .un .un .un .un .un .un) (ρ1 := WE sc xs n2 (.val kd) (.val (.int mt)) a b .un .un .un .un .un .un) (ds := [kd, .tuple (ns.map PyData.int)]) (b := false) (consR_of (d := St xs n) (b := false) rfl (by rcases hks with rfl | rfl <;> exact consV_of rfl rfl (consV_of c2 rfl rfl))) rfl em rfl (fun _ z => nomatch z)
  obtain ⟨n2, ns, ms, hl1, hm1, ea⟩ := dr (n1 + 1) (.own kd false) .un .un (.inl rfl)
  obtain ⟨dA, hA⟩ := md_of hm1
  rw [dA] at ea
  generalize hAe : mdOf p as ns ms = A at *
  rw [seq_nx (ρ1 := WE sc xs n2 (.val kd) (.val (.int mt)) (.val A.d) .un .un .un .un .un .un .un) (set_of (i := 4) (ρ1 := WE sc xs n2 (.val kd) (.val (.int mt)) .un .un .un .un .un .un .un .un) ea rfl)]
  obtain ⟨n3, ns', ms', hl2, hm2, eb⟩ := dr n2 (.val kd) (.val A.d) .un (.inr rfl)
  obtain ⟨dB, hB⟩ := md_of hm2
  rw [dB] at eb
  have hlike : mdOf p as ns' ms' = A.like (mdOf p as ns' ms').N (mdOf p as ns' ms').F := by
    rw [← hAe]
    show (⟨p, as.length, _, _, ns'.length, _, _⟩ : Md) = ⟨p, as.length, _, _, ns.length, _, _⟩
    rw [hl1, hl2]
    rfl
  generalize (mdOf p as ns' ms').N = N at *
  generalize (mdOf p as ns' ms').F = F at *
  generalize hBe : mdOf p as ns' ms' = B at *
  rw [seq_nx (ρ1 := WE sc xs n3 (.val kd) (.val (.int mt)) (.val A.d) (.val B.d) .un .un .un .un .un .un) (set_of (i := 5) (ρ1 := WE sc xs n3 (.val kd) (.val (.int mt)) (.val A.d) .un .un .un .un .un .un .un) eb rfl)]
  have hAp : A.p = p := by rw [← hAe]; rfl
  have hp := hm1.kind.prime
  subst hlike
  clear dA dB hm1 hm2 hBe hAe
  have s1 := hA.sum
  have s2 : sumN A.q N ≤ 40 := hB.sum
  have A125 : A.Ok 125 := hA.up (by decide)
  have B125 : (A.like N F).Ok 125 := hB.up (by decide)
  -- what was shown of both
  obtain ⟨y, hy⟩ : ∃ y : Str, strD (.list [A.d, (A.like N F).d]) = some y := by
    have na := nice_md hA (by decide)
    have nb := nice_md hB (by decide)
    refine (nice_lst (c := 2) (w := 4 * (max 15 (5 * (40 * (40 + 1) + 1)) + 1)) (n := 4) (by simp) fun x hx => ?_).str (by decide) (by decide)
    simp only [List.mem_cons, List.not_mem_nil, or_false] at hx
    rcases hx with rfl | rfl
    · exact na
    · exact nb
  let R := fun (n : Nat) (kp o t u sz pl : Pi.Slot) => WE sc xs n (.val kd) (.val (.int mt)) (.val A.d) (.val (A.like N F).d) kp o t u sz pl
  have es : ∀ (n : Nat) (kp o t u sz pl : Pi.Slot), mUn fStr (mLst (mConsV (mVar 4) (mConsV (mVar 5) mNilA))) (R n kp o t u sz pl) = some (.ok (.val (.str y)) (R n kp o t u sz pl)) := fun n kp o t u sz pl =>
    un_of (p := .list [A.d, (A.like N F).d]) (lst_of (ds := [A.d, (A.like N F).d]) (consV_of rfl rfl (consV_of rfl rfl rfl)) rfl (by simp)) rfl (by simp [fStr, hy])
  rw [seq_nx (ρ1 := R n3 (.val (.str y)) .un .un .un .un .un) (set_of (i := 6) (ρ1 := R n3 .un .un .un .un .un .un) (es n3 .un .un .un .un .un .un) rfl)]
  -- the three sums
  let K := Pi.Slot.val (.str y)
  have bd : ∀ (C : Md) (N' : Nat → Nat) (F' : Nat → Nat → Nat → Int), C.Ok 40 → (C.like N' F').Ok 40 → L1_law (R n3 K (.val C.d) (.val (C.like N' F').d) .un .un .un) = some (.nx (R n3 K (.val C.d) (.val (C.like N' F').d) .un .un .un)) := fun C N' F' hC hC' => by
    unfold L1_law
    exact sums_test C N' F' hC hC' rfl rfl
  have lp : mFor (iSeq (mLst (mConsV (mTup (mConsV (mVar 4) (mConsV (mVar 5) mNilA))) (mConsV (mTup (mConsV (mVar 5) (mConsV (mVar 4) mNilA))) (mConsV (mTup (mConsV (mVar 4) (mConsV (mVar 4) mNilA))) mNilA))))) (gTL (gsCons (gN 7) (gsCons (gN 8) gsNil))) L1_law (R n3 K .un .un .un .un .un) = some (.nx (R n3 K (.val A.d) (.val A.d) .un .un .un)) := by
    rw [for_of (seq_it (ds := [.tuple [A.d, (A.like N F).d], .tuple [(A.like N F).d, A.d], .tuple [A.d, A.d]]) rfl rfl (by simp))]
    have b1 := bd A N F hA hB
    have b2 : L1_law (R n3 K (.val (A.like N F).d) (.val A.d) .un .un .un) = some (.nx (R n3 K (.val (A.like N F).d) (.val A.d) .un .un .un)) := bd (A.like N F) A.N A.F hB hA
    have b3 : L1_law (R n3 K (.val A.d) (.val A.d) .un .un .un) = some (.nx (R n3 K (.val A.d) (.val A.d) .un .un .un)) := bd A A.N A.F hA hA
    rw [forL_step (g2_of (x := A.d) (y := (A.like N F).d) (ρ := R n3 K .un .un .un .un .un) rfl rfl) b1]
    rw [forL_step (g2_of (x := (A.like N F).d) (y := A.d) (ρ := R n3 K (.val A.d) (.val (A.like N F).d) .un .un .un) rfl rfl) b2]
    rw [forL_step (g2_of (x := A.d) (y := A.d) (ρ := R n3 K (.val (A.like N F).d) (.val A.d) .un .un .un) rfl rfl) b3]
    rfl
  rw [seq_nx lp]
  generalize hρ : R n3 K (.val A.d) (.val A.d) .un .un .un = ρ
  have v4 : mVar 4 ρ = some (.ok (.val A.d) ρ) := by rw [← hρ]; rfl
  have v5 : mVar 5 ρ = some (.ok (.val (A.like N F).d) ρ) := by rw [← hρ]; rfl
  -- turned ones
  have tA := call_of (a := mConsV (mVar 4) mNilA) (ρ := ρ) (ρ1 := ρ) (ds := [A.d]) (consV_of v4 rfl rfl) (turned_is A A125) rfl (fun _ z => nomatch z)
  have tB := call_of (a := mConsV (mVar 5) mNilA) (ρ := ρ) (ρ1 := ρ) (ds := [(A.like N F).d]) (consV_of v5 rfl rfl) (turned_is (A.like N F) B125) rfl (fun _ z => nomatch z)
  have lA := call_of (a := mConsV (mVar 4) mNilA) (ρ := ρ) (ρ1 := ρ) (ds := [A.d]) (consV_of v4 rfl rfl) (lturned_is A A125) rfl (fun _ z => nomatch z)
  have ttA := call_of (a := mConsV (mCall f_turned (mConsV (mVar 4) mNilA)) mNilA) (ρ := ρ) (ρ1 := ρ) (ds := [A.turn.d]) (consV_of tA rfl rfl) (turned_is A.turn (turn_ok A125)) rfl (fun _ z => nomatch z)
  have q1 := call_of (f := f__law_equal) (a := mConsV (mCall f_turned (mConsV (mVar 4) mNilA)) (mConsV (mCall f__law_turned (mConsV (mVar 4) mNilA)) mNilA)) (ρ := ρ) (ρ1 := ρ) (ds := [A.turn.d, A.turn.d]) (consV_of tA rfl (consV_of lA rfl rfl)) (equal_is (nst_md (turn_ok hA) (by decide))) rfl (fun _ z => nomatch z)
  have q2 := call_of (f := f__law_equal) (a := mConsV (mCall f_turned (mConsV (mCall f_turned (mConsV (mVar 4) mNilA)) mNilA)) (mConsV (mVar 4) mNilA)) (ρ := ρ) (ρ1 := ρ) (ds := [A.d, A.d]) (consV_of ttA rfl (consV_of v4 rfl rfl)) (equal_is (nst_md hA (by decide))) rfl (fun _ z => nomatch z)
  rw [seq_nx (ρ1 := ρ) (by rw [if_f (by rw [tor_f (tnot_of (v := true) (tru_of_ok q1 rfl rfl))]; exact tnot_of (v := true) (tru_of_ok q2 rfl rfl))]; rfl)]
  -- sums of turned ones
  have aAB := call_of (a := mConsV (mVar 4) (mConsV (mVar 5) mNilA)) (ρ := ρ) (ρ1 := ρ) (ds := [A.d, (A.like N F).d]) (consV_of v4 rfl (consV_of v5 rfl rfl)) (add_is A N F A125 B125 (by omega)) rfl (fun _ z => nomatch z)
  have pAB : (A.plus N F).Ok 80 := plus_ok hA hB
  have tAB := call_of (a := mConsV (mCall f_add (mConsV (mVar 4) (mConsV (mVar 5) mNilA))) mNilA) (ρ := ρ) (ρ1 := ρ) (ds := [(A.plus N F).d]) (consV_of aAB rfl rfl) (turned_is (A.plus N F) (pAB.up (by decide))) rfl (fun _ z => nomatch z)
  have aT := call_of (a := mConsV (mCall f_turned (mConsV (mVar 4) mNilA)) (mConsV (mCall f_turned (mConsV (mVar 5) mNilA)) mNilA)) (ρ := ρ) (ρ1 := ρ) (ds := [A.turn.d, (A.like N F).turn.d]) (consV_of tA rfl (consV_of tB rfl rfl)) (add_is A.turn N (fun k i j => F k j i) (turn_ok A125) (turn_ok B125) (by show sumN A.q A.N + sumN A.q N ≤ 125; omega)) rfl (fun _ z => nomatch z)
  rw [← turn_plus] at aT
  have q3 := call_of (f := f__law_equal) (a := mConsV (mCall f_turned (mConsV (mCall f_add (mConsV (mVar 4) (mConsV (mVar 5) mNilA))) mNilA)) (mConsV (mCall f_add (mConsV (mCall f_turned (mConsV (mVar 4) mNilA)) (mConsV (mCall f_turned (mConsV (mVar 5) mNilA)) mNilA))) mNilA)) (ρ := ρ) (ρ1 := ρ) (ds := [(A.plus N F).turn.d, (A.plus N F).turn.d]) (consV_of tAB rfl (consV_of aT rfl rfl)) (equal_is (nst_md (turn_ok pAB) (by decide))) rfl (fun _ z => nomatch z)
  rw [seq_nx (ρ1 := ρ) (by rw [if_f (tnot_of (v := true) (tru_of_ok q3 rfl rfl))]; rfl)]
  -- those of other kinds
  obtain ⟨rows, eu, hr3, hrow⟩ := unlike_is A A125
  have cu := call_of (f := f__law_unlike) (a := mConsV (mVar 4) mNilA) (ρ := ρ) (ρ1 := ρ) (ds := [A.d]) (consV_of v4 rfl rfl) eu rfl (fun _ z => nomatch z)
  obtain ⟨ρ', e, u', rfl, hu'⟩ := forL_all (g := gN 9) (body := L2_law) (fun _ ρ => ∃ u : Pi.Slot, ρ = R n3 K (.val A.d) (.val A.d) u .un .un ∧ fr u = true) rows 0 ρ ⟨.un, hρ.symm, rfl⟩ fun j d ρ hd hI => by
    obtain ⟨u, rfl, hu⟩ := hI
    exact ⟨_, gN_of (by rw [free_eq]; exact hu), R n3 K (.val A.d) (.val A.d) (.val d) .un .un, unlike_test A125 (hrow d (List.mem_of_getElem? hd)), .val d, rfl, rfl⟩
  rw [seq_nx (by rw [for_of (seq_it (ds := rows) cu rfl (by omega))]; exact e)]
  clear cu q1 q2 q3 aT tAB aAB ttA lA tB tA v4 v5 e hρ
  -- sizes
  obtain ⟨z, hz⟩ : ∃ z : Nat, drw xs n3 % 126 = (z : Int) := ⟨(drw xs n3 % 126).toNat, by have := mod_rng (drw xs n3) 126 (by decide); omega⟩
  have hz125 : z ≤ 125 := by have := mod_rng (drw xs n3) 126 (by decide); omega
  have ez : mOp fMod (mCall f__law_draw (mConsR 1 mNilA)) (mC (.int 126)) (R n3 K (.val A.d) (.val A.d) u' .un .un) = some (.ok (.val (.int (z : Nat))) (R (n3 + 1) K (.val A.d) (.val A.d) u' .un .un)) := by
    rw [← hz]
    exact mod_draw (xs := xs) (n := n3) (b := false) (by decide) rfl
  rw [seq_nx (ρ1 := R (n3 + 1) K (.val A.d) (.val A.d) u' (.val (.int (z : Nat))) .un) (set_of (i := 10) (ρ1 := R (n3 + 1) K (.val A.d) (.val A.d) u' .un .un) ez rfl)]
  let T := fun pl : Pi.Slot => R (n3 + 1) K (.val A.d) (.val A.d) u' (.val (.int (z : Nat))) pl
  have ek0 : mOp fIx (mVar 2) (mC (.int 0)) (T .un) = some (.ok (.val (.int p)) (T .un)) := op_of rfl rfl (by rw [← hkd]; rfl)
  have esz : mOp fSub (mC (.int 125)) (mVar 10) (T .un) = some (.ok (.val (.int ((125 - z : Nat) : Int))) (T .un)) := op_of (p := .int 125) (q := .int (z : Nat)) rfl rfl (by
    show some (RV.val (.int (125 - (z : Int)))) = _
    rw [show (125 : Int) - (z : Int) = ((125 - z : Nat) : Int) by omega])
  have pln : ∀ (m1 m2 : M) (a b : Nat), m1 (T .un) = some (.ok (.val (.int (a : Nat))) (T .un)) → m2 (T .un) = some (.ok (.val (.int (b : Nat))) (T .un)) →
      mTup (mConsV (mOp fIx (mVar 2) (mC (.int 0))) (mConsV (mTup mNilA) (mConsV (mTup (mConsV m1 (mConsV m2 mNilA))) (mConsV (mTup mNilA) mNilA)))) (T .un) = some (.ok (.val (flat p a b).d) (T .un)) := fun m1 m2 a b h1 h2 => by
    rw [flat_d]
    exact tup_of (consV_of ek0 rfl (consV_of rfl rfl (consV_of (tup_of (consV_of h1 rfl (consV_of h2 rfl rfl)) rfl (by simp)) rfl (consV_of rfl rfl rfl)))) rfl (by simp)
  have p0 := pln (mC (.int 0)) (mVar 10) 0 z rfl rfl
  have p1 := pln (mOp fSub (mC (.int 125)) (mVar 10)) (mC (.int 0)) (125 - z) 0 esz rfl
  have p2 := pln (mC (.int 1)) (mOp fSub (mC (.int 125)) (mVar 10)) 1 (125 - z) rfl esz
  rw [seq_nx (ρ1 := T (.own (.list [(flat p 0 z).d, (flat p (125 - z) 0).d, (flat p 1 (125 - z)).d]) false)) (setO_of (i := 11) (ρ1 := T .un) (lst_of (ds := [(flat p 0 z).d, (flat p (125 - z) 0).d, (flat p 1 (125 - z)).d]) (consV_of p0 rfl (consV_of p1 rfl (consV_of p2 rfl rfl))) rfl (by simp)) rfl)]
  generalize hτ : T (.own (.list [(flat p 0 z).d, (flat p (125 - z) 0).d, (flat p 1 (125 - z)).d]) false) = τ
  have x0 : mOp fIx (mVar 11) (mC (.int 0)) τ = some (.ok (.val (flat p 0 z).d) τ) := by rw [← hτ]; exact op_rd rfl rfl rfl rfl rfl
  have x1 : mOp fIx (mVar 11) (mC (.int 1)) τ = some (.ok (.val (flat p (125 - z) 0).d) τ) := by rw [← hτ]; exact op_rd rfl rfl rfl rfl rfl
  have x2 : mOp fIx (mVar 11) (mC (.int 2)) τ = some (.ok (.val (flat p 1 (125 - z)).d) τ) := by rw [← hτ]; exact op_rd rfl rfl rfl rfl rfl
  have x10 : mVar 10 τ = some (.ok (.val (.int (z : Nat))) τ) := by rw [← hτ]; rfl
  have f0 : (flat p 0 z).Ok 125 := flat_ok hp (by omega)
  have f1 : (flat p (125 - z) 0).Ok 125 := flat_ok hp (by omega)
  have w1 := word_test x0 x1 (word_none (add_is (flat p 0 z) (flat p (125 - z) 0).N (flat p (125 - z) 0).F f0 f1 (by rw [show sumN (flat p 0 z).q (flat p (125 - z) 0).N = (125 - z) + 0 from flat_sum p (125 - z) 0, flat_sum]; omega)))
  rw [seq_nx (ρ1 := τ) (by rw [if_f w1]; rfl)]
  have gt : mTru (mOp fGt (mVar 10) (mC (.int 0))) τ = some (.ok (decide ((0 : Int) < (z : Nat))) τ) := tru_of_ok (op_of x10 rfl (gt_ints _ _)) rfl rfl
  have lg : mtAnd (mTru (mOp fGt (mVar 10) (mC (.int 0)))) (mTru (mOp fNe (mCall f__law_word (mConsV (mOp fIx (mVar 11) (mC (.int 0))) (mConsV (mOp fIx (mVar 11) (mC (.int 2))) mNilA))) (mC (.str "large")))) τ = some (.ok false τ) := by
    by_cases c : 0 < z
    · rw [decide_eq_true (by omega)] at gt
      rw [tand_t gt]
      have f2 : (flat p 1 (125 - z)).Ok 125 := flat_ok hp (by omega)
      have kk : kindB (flat p 0 z) (flat p 1 (125 - z)) = true := like_kind (flat p 0 z) (flat p 1 (125 - z)).N (flat p 1 (125 - z)).F
      exact word_test x0 x2 (word_ex (add_big f0 f2 kk (by rw [flat_sum, flat_sum]; omega)) "large" (.inr (.inr ⟨rfl, rfl⟩)))
    · rw [decide_eq_false (by omega)] at gt
      exact tand_f gt
  rw [seq_nx (ρ1 := τ) (by rw [if_f lg]; rfl)]
  refine ⟨τ, ret_of ?_⟩
  rw [← hτ]
  exact op_of (es _ _ _ _ _ _ _) rfl (by simp [fEq, fOr, fEqS])
end K02
open PySem PySem.W PyProof.Rows
set_option maxRecDepth 100000 in
set_option maxHeartbeats 0 in
theorem PySem.Challenge.cw_severalmaps_k02_sums_and_turned_modules_holds : PySem.Challenge.rw_severalmaps_k02_sums_and_turned_modules.Holds := by
  w_on; o_law; k_head; (case hw => w_witness2)
  k_fill
  refine Pi.walk_pi (l := PySem.Challenge.rw_severalmaps_k02_sums_and_turned_modules) (n := 63) (k := 17) (x := "script") (sem := K02.f_law) rfl (by decide) rfl ⟨rfl, by decide, by decide⟩ (fun w h Y => PySem.W.kIn_of Y) K02.law_ok ?F
  case F =>
    intro w mg fa h KX G hmg
    refine' K02.glue KX G hmg ?b_all ?b_bool ?b_int ?b_isinstance ?b_len ?b_list ?b_max ?b_min ?b_range ?b_str ?b_sum ?b_tuple ?b_type ?b_zip ?a_is_row ?l_is_row ?c_is_row ?k_is_row ?a_transposed ?l_transposed ?c_transposed ?k_transposed ?a_is_prime ?l_is_prime ?c_is_prime ?k_is_prime ?a_are_dims ?l_are_dims ?c_are_dims ?k_are_dims ?a_is_arrow ?l_is_arrow ?c_is_arrow ?k_is_arrow ?a_are_of_one_kind ?l_are_of_one_kind ?c_are_of_one_kind ?k_are_of_one_kind ?a_size ?l_size ?c_size ?k_size ?a_blocks ?l_blocks ?c_blocks ?k_blocks ?a__law_mixed ?l__law_mixed ?c__law_mixed ?k__law_mixed ?a__law_sum ?l__law_sum ?c__law_sum ?k__law_sum ?a__law_turned ?l__law_turned ?c__law_turned ?k__law_turned ?a__law_unlike ?l__law_unlike ?c__law_unlike ?k__law_unlike ?a_is_matrix ?l_is_matrix ?c_is_matrix ?k_is_matrix ?a_are_arrows ?l_are_arrows ?c_are_arrows ?k_are_arrows ?a_check_kind ?l_check_kind ?c_check_kind ?k_check_kind ?a_turn ?l_turn ?c_turn ?k_turn ?a__law_numbers ?l__law_numbers ?c__law_numbers ?k__law_numbers ?a__law_draw ?l__law_draw ?c__law_draw ?k__law_draw ?a_are_maps ?l_are_maps ?c_are_maps ?k_are_maps ?a__law_kind ?l__law_kind ?c__law_kind ?k__law_kind ?a__law_dims ?l__law_dims ?c__law_dims ?k__law_dims ?a__law_matrix ?l__law_matrix ?c__law_matrix ?k__law_matrix ?a_is_module ?l_is_module ?c_is_module ?k_is_module ?a__law_module ?l__law_module ?c__law_module ?k__law_module ?a_check_module ?l_check_module ?c_check_module ?k_check_module ?a_check_pair ?l_check_pair ?c_check_pair ?k_check_pair ?a_turned ?l_turned ?c_turned ?k_turned ?a_add ?l_add ?c_add ?k_add ?a__law_word ?l__law_word ?c__law_word ?k__law_word ?a__law_equal ?l__law_equal ?c__law_equal ?k__law_equal ?a__law_all_equal ?l__law_all_equal ?c__law_all_equal ?k__law_all_equal ?a_law ?l_law ?c_law ?k_law ?v_MOST_ARROWS ?v_MOST_SIZE ?v_MOST_SPACES ?v_PRIMES ?w_PRIMES ?x_SeveralmapsError ?x_BadModule ?x_BadArgument ?x_TooLarge ?r_BadModule ?kk_BadModule ?s_BadModule ?t_BadModule ?g1_BadModule ?g2_BadModule ?g3_BadModule ?g4_BadModule ?g5_BadModule ?g6_BadModule ?g7_BadModule ?q_BadModule_BadArgument ?q_BadModule_BadModule ?q_BadModule_TooLarge ?m_BadModule_SeveralmapsError ?r_BadArgument ?kk_BadArgument ?s_BadArgument ?t_BadArgument ?g1_BadArgument ?g2_BadArgument ?g3_BadArgument ?g4_BadArgument ?g5_BadArgument ?g6_BadArgument ?g7_BadArgument ?q_BadArgument_BadArgument ?q_BadArgument_BadModule ?q_BadArgument_TooLarge ?m_BadArgument_SeveralmapsError ?r_TooLarge ?kk_TooLarge ?s_TooLarge ?t_TooLarge ?g1_TooLarge ?g2_TooLarge ?g3_TooLarge ?g4_TooLarge ?g5_TooLarge ?g6_TooLarge ?g7_TooLarge ?q_TooLarge_BadArgument ?q_TooLarge_BadModule ?q_TooLarge_TooLarge ?m_TooLarge_SeveralmapsError
    (case b_all => k_is)
    (case b_bool => k_is)
    (case b_int => k_is)
    (case b_isinstance => k_is)
    (case b_len => k_is)
    (case b_list => k_is)
    (case b_max => k_is)
    (case b_min => k_is)
    (case b_range => k_is)
    (case b_str => k_is)
    (case b_sum => k_is)
    (case b_tuple => k_is)
    (case b_type => k_is)
    (case b_zip => k_is)
    (case a_is_row => k_is)
    (case l_is_row => k_is)
    (case c_is_row => k_is)
    (case k_is_row => k_is)
    (case a_transposed => k_is)
    (case l_transposed => k_is)
    (case c_transposed => k_is)
    (case k_transposed => k_is)
    (case a_is_prime => k_is)
    (case l_is_prime => k_is)
    (case c_is_prime => k_is)
    (case k_is_prime => k_is)
    (case a_are_dims => k_is)
    (case l_are_dims => k_is)
    (case c_are_dims => k_is)
    (case k_are_dims => k_is)
    (case a_is_arrow => k_is)
    (case l_is_arrow => k_is)
    (case c_is_arrow => k_is)
    (case k_is_arrow => k_is)
    (case a_are_of_one_kind => k_is)
    (case l_are_of_one_kind => k_is)
    (case c_are_of_one_kind => k_is)
    (case k_are_of_one_kind => k_is)
    (case a_size => k_is)
    (case l_size => k_is)
    (case c_size => k_is)
    (case k_size => k_is)
    (case a_blocks => k_is)
    (case l_blocks => k_is)
    (case c_blocks => k_is)
    (case k_blocks => k_is)
    (case a__law_mixed => k_is)
    (case l__law_mixed => k_is)
    (case c__law_mixed => k_is)
    (case k__law_mixed => k_is)
    (case a__law_sum => k_is)
    (case l__law_sum => k_is)
    (case c__law_sum => k_is)
    (case k__law_sum => k_is)
    (case a__law_turned => k_is)
    (case l__law_turned => k_is)
    (case c__law_turned => k_is)
    (case k__law_turned => k_is)
    (case a__law_unlike => k_is)
    (case l__law_unlike => k_is)
    (case c__law_unlike => k_is)
    (case k__law_unlike => k_is)
    (case a_is_matrix => k_is)
    (case l_is_matrix => k_is)
    (case c_is_matrix => k_is)
    (case k_is_matrix => k_is)
    (case a_are_arrows => k_is)
    (case l_are_arrows => k_is)
    (case c_are_arrows => k_is)
    (case k_are_arrows => k_is)
    (case a_check_kind => k_is)
    (case l_check_kind => k_is)
    (case c_check_kind => k_is)
    (case k_check_kind => k_is)
    (case a_turn => k_is)
    (case l_turn => k_is)
    (case c_turn => k_is)
    (case k_turn => k_is)
    (case a__law_numbers => k_is)
    (case l__law_numbers => k_is)
    (case c__law_numbers => k_is)
    (case k__law_numbers => k_is)
    (case a__law_draw => k_is)
    (case l__law_draw => k_is)
    (case c__law_draw => k_is)
    (case k__law_draw => k_is)
    (case a_are_maps => k_is)
    (case l_are_maps => k_is)
    (case c_are_maps => k_is)
    (case k_are_maps => k_is)
    (case a__law_kind => k_is)
    (case l__law_kind => k_is)
    (case c__law_kind => k_is)
    (case k__law_kind => k_is)
    (case a__law_dims => k_is)
    (case l__law_dims => k_is)
    (case c__law_dims => k_is)
    (case k__law_dims => k_is)
    (case a__law_matrix => k_is)
    (case l__law_matrix => k_is)
    (case c__law_matrix => k_is)
    (case k__law_matrix => k_is)
    (case a_is_module => k_is)
    (case l_is_module => k_is)
    (case c_is_module => k_is)
    (case k_is_module => k_is)
    (case a__law_module => k_is)
    (case l__law_module => k_is)
    (case c__law_module => k_is)
    (case k__law_module => k_is)
    (case a_check_module => k_is)
    (case l_check_module => k_is)
    (case c_check_module => k_is)
    (case k_check_module => k_is)
    (case a_check_pair => k_is)
    (case l_check_pair => k_is)
    (case c_check_pair => k_is)
    (case k_check_pair => k_is)
    (case a_turned => k_is)
    (case l_turned => k_is)
    (case c_turned => k_is)
    (case k_turned => k_is)
    (case a_add => k_is)
    (case l_add => k_is)
    (case c_add => k_is)
    (case k_add => k_is)
    (case a__law_word => k_is)
    (case l__law_word => k_is)
    (case c__law_word => k_is)
    (case k__law_word => k_is)
    (case a__law_equal => k_is)
    (case l__law_equal => k_is)
    (case c__law_equal => k_is)
    (case k__law_equal => k_is)
    (case a__law_all_equal => k_is)
    (case l__law_all_equal => k_is)
    (case c__law_all_equal => k_is)
    (case k__law_all_equal => k_is)
    (case a_law => k_is)
    (case l_law => k_is)
    (case c_law => k_is)
    (case k_law => k_is)
    (case v_MOST_ARROWS => k_is)
    (case v_MOST_SIZE => k_is)
    (case v_MOST_SPACES => k_is)
    (case v_PRIMES => k_is)
    (case w_PRIMES => k_is)
    (case x_SeveralmapsError => k_is)
    (case x_BadModule => k_is)
    (case x_BadArgument => k_is)
    (case x_TooLarge => k_is)
    (case r_BadModule => k_exc)
    (case kk_BadModule => k_is)
    (case s_BadModule => k_is)
    (case t_BadModule => k_is)
    (case g1_BadModule => k_is)
    (case g2_BadModule => k_is)
    (case g3_BadModule => k_is)
    (case g4_BadModule => k_is)
    (case g5_BadModule => k_is)
    (case g6_BadModule => k_is)
    (case g7_BadModule => k_is)
    (case q_BadModule_BadArgument => kit_is)
    (case q_BadModule_BadModule => kit_is)
    (case q_BadModule_TooLarge => kit_is)
    (case m_BadModule_SeveralmapsError => kts_exm)
    (case r_BadArgument => k_exc)
    (case kk_BadArgument => k_is)
    (case s_BadArgument => k_is)
    (case t_BadArgument => k_is)
    (case g1_BadArgument => k_is)
    (case g2_BadArgument => k_is)
    (case g3_BadArgument => k_is)
    (case g4_BadArgument => k_is)
    (case g5_BadArgument => k_is)
    (case g6_BadArgument => k_is)
    (case g7_BadArgument => k_is)
    (case q_BadArgument_BadArgument => kit_is)
    (case q_BadArgument_BadModule => kit_is)
    (case q_BadArgument_TooLarge => kit_is)
    (case m_BadArgument_SeveralmapsError => kts_exm)
    (case r_TooLarge => k_exc)
    (case kk_TooLarge => k_is)
    (case s_TooLarge => k_is)
    (case t_TooLarge => k_is)
    (case g1_TooLarge => k_is)
    (case g2_TooLarge => k_is)
    (case g3_TooLarge => k_is)
    (case g4_TooLarge => k_is)
    (case g5_TooLarge => k_is)
    (case g6_TooLarge => k_is)
    (case g7_TooLarge => k_is)
    (case q_TooLarge_BadArgument => kit_is)
    (case q_TooLarge_BadModule => kit_is)
    (case q_TooLarge_TooLarge => kit_is)
    (case m_TooLarge_SeveralmapsError => kts_exm)
